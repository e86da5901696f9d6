package index_test

import (
	"fmt"
	"slices"
	"testing"

	"ledger/api"
	"ledger/index"
)

// row is what was added, by number: records from 1 on.
type row struct {
	first int
	pages []int
	added []api.Record
}

// grown adds records with other pages between, of maps and of none, and flushes now and then.
func grown(r *rig, first, records int) row {
	r.Helper()
	made := row{first, []int{0}, []api.Record{{}}}
	head := 0
	for i := 1; i <= records; i++ {
		if i%5 == 3 {
			r.filler(r.s.Next() + i%3)
		}
		x := api.Record{Version: max(first, 1), First: first, Sum: sumOf(i)}
		if i%4 != 0 && r.s.Next() > 2 {
			x.Root, x.Count = 2+i*i%(r.s.Next()-2), i
		}
		head = r.added(head, x)
		x.Version, x.Prev, x.Skip = max(first, 1)+i-1, made.pages[i-1], made.pages[lastOneOff(i)]
		made.pages, made.added = append(made.pages, head), append(made.added, x)
		if i%11 == 0 {
			r.flush()
		}
	}
	return made
}

// isRow asks at each head, for each version and some that there are not, what was added for it (P15.11).
func (r *rig) isRow(made row) {
	r.Helper()
	empty := emptyRecord(r.s.Super().Width)
	for n := 1; n < len(made.pages); n++ {
		head, last := made.pages[n], made.added[n].Version
		r.bounds(head, made.first, last, api.OK)
		for i := 1; i <= n; i++ {
			x, looked, e := index.Find(r.s, head, made.added[i].Version)
			if x != made.added[i] || e != api.OK {
				r.Errorf("%s: Find(%d, %d) = %+v, %v, want %+v", r.promise, head, made.added[i].Version, x, e, made.added[i])
			}
			if b := digitsOf(n); looked > b*(b+1)/2 || looked < 1 {
				r.Errorf("P15.9: Find(%d, %d) looks at %d", head, made.added[i].Version, looked)
			}
		}
		for _, version := range []int{last + 1, last + 2, top + 1, highest} {
			r.findsNot(head, version, api.ErrVersion)
		}
		for _, version := range []int{-1, -2, -top, lowest} {
			r.findsNot(head, version, api.ErrArg)
		}
		if made.first == 0 {
			r.finds(head, 0, 1, empty)
			continue
		}
		for _, version := range []int{0, made.first / 2, made.first - 1} {
			r.findsNot(head, version, api.ErrGone)
		}
	}
}

// P15.8, P15.11: what was added is found at each head, staged, flushed and opened anew, at each room.
func TestFindGivesWhatWasAdded(t *testing.T) {
	for _, first := range []int{0, 1, 2, 40, top - 89} {
		r := begun(t, fmt.Sprintf("P15.11: First %d", first), 250)
		made := grown(r, first, 90)
		r.isRow(made)
		r.flush()
		r.isRow(made)
		for _, room := range []int{0, 1, 7, 4096} {
			r.reopened(room).isRow(made)
		}
	}
}

// P15.11: whatever comes behind, and however often.
func TestFindBehindForks(t *testing.T) {
	r := begun(t, "P15.11", 400)
	made := grown(r, 0, 30)
	for n := 1; n <= 30; n++ {
		head := made.pages[n]
		for range 5 {
			head = r.added(head, api.Record{Sum: sumOf(-n)})
		}
		r.added(0, api.Record{Version: n, First: n})
	}
	r.isRow(made)
}

// P15.8: version 0 of a ledger that began empty, at each width.
func TestEmptyRecord(t *testing.T) {
	for width := 1; width <= 32; width++ {
		r := begunWide(t, "P15.8", 8, width)
		r.finds(0, 0, 0, emptyRecord(width))
		head := r.chain(1, 0, 2)
		r.finds(0, 0, 0, emptyRecord(width))
		r.finds(2, 0, 1, emptyRecord(width))
		r.finds(head, 0, 1, emptyRecord(width))
		for _, version := range []int{1, 2, 3, top, top + 1, highest} {
			r.findsNot(0, version, api.ErrVersion)
		}
		for _, version := range []int{-1, -2, -top, lowest} {
			r.findsNot(0, version, api.ErrArg)
		}
	}
}

// P15.8: which records are looked at, in their order: by Skip where that does not lead too far, else by Prev.
func TestWays(t *testing.T) {
	numbers := map[[2]int][]int{
		{8, 8}: {8}, {8, 7}: {8, 7}, {8, 6}: {8, 7, 6}, {8, 5}: {8, 7, 6, 5}, {8, 4}: {8, 7, 6, 4}, {8, 3}: {8, 7, 6, 4, 3}, {8, 2}: {8, 7, 6, 4, 3, 2}, {8, 1}: {8, 7, 6, 4, 3, 2, 1},
		{7, 4}: {7, 6, 4}, {7, 5}: {7, 6, 5}, {6, 3}: {6, 4, 3}, {6, 5}: {6, 5}, {6, 4}: {6, 4}, {5, 4}: {5, 4}, {4, 1}: {4, 3, 2, 1}, {1, 1}: {1},
		{48, 32}: {48, 32}, {48, 33}: {48, 47, 46, 44, 40, 39, 38, 36, 35, 34, 33}, {47, 32}: {47, 46, 44, 40, 32}, {40, 31}: {40, 32, 31}, {41, 17}: {41, 40, 32, 31, 30, 28, 24, 23, 22, 20, 19, 18, 17},
	}
	for _, first := range []int{0, 1, 500} {
		r := begun(t, "P15.8", 250)
		made := grown(r, first, 50)
		for c, want := range numbers {
			var pages []int
			for _, n := range want {
				pages = append(pages, made.pages[n])
			}
			head, version := made.pages[c[0]], max(first, 1)+c[1]-1
			looked, e := r.asReadFind(head, version)
			if !slices.Equal(looked, pages) || e != api.OK {
				t.Errorf("P15.8: the reading goes from %d to %d over the pages %v, want %v", c[0], c[1], looked, pages)
			}
			r.finds(head, version, len(pages), made.added[c[1]])
		}
	}
}

// P15.9: few are looked at in the longest row that a disk holds.
func TestFewAreLookedAt(t *testing.T) {
	for _, first := range []int{0, 7} {
		r := begun(t, "P15.9", 4096)
		head := 0
		for i := 1; i <= 4094; i++ {
			before := r.loads()
			head = r.added(head, api.Record{Version: max(first, 1), First: first, Sum: sumOf(i)})
			if b := digitsOf(max(i-1, 1)); r.loads()-before > b*(b+1)/2 {
				t.Errorf("P15.9: Add behind the number %d looks at %d", i-1, r.loads()-before)
			}
		}
		for _, n := range []int{4094, 4093, 4092, 4090, 4096 - 16, 3072, 2731, 2730, 2048, 2047, 2046, 1024, 1023, 600, 511} {
			most, b := 0, digitsOf(n)
			for i := 1; i <= n; i++ {
				x, looked, e := index.Find(r.s, n+1, max(first, 1)+i-1)
				if x.Version != max(first, 1)+i-1 || x.Sum != sumOf(i) || e != api.OK {
					t.Fatalf("P15.9: the number %d at %d: %+v, %v", i, n, x, e)
				}
				most = max(most, looked)
			}
			if most > b*(b+1)/2 || n == 1<<b-1 && most < b*(b+1)/2 {
				t.Errorf("P15.9: at the number %d Find looks at up to %d, the bound is %d", n, most, b*(b+1)/2)
			}
		}
	}
}

// onWay stages a record of a number that leads to the one ahead of it on a way, by Prev or by Skip: the other link leads to a leaf, which nobody looks at.
func (r *rig) onWay(n, first, last int) int {
	r.Helper()
	x := api.Record{Version: max(first, 1) + n - 1, First: first, Sum: sumOf(n)}
	switch {
	case n == 1:
	case lastOneOff(n) == 0:
		x.Prev = last
	case n%2 == 1:
		x.Prev, x.Skip = last, last
	default:
		x.Prev, x.Skip = r.forge(api.KindLeaf, nil), last
	}
	return r.record(x)
}

// P15.9: the longest ways that there are, of numbers of 30 digits: the records that lie on them, and no others.
func TestFarthestWays(t *testing.T) {
	for first, looks := range map[int]int{0: 465, 1: 465, 2: 464} {
		r := begun(t, "P15.9", 1000)
		way := []int{top - max(first, 1)} // numbers, falling
		for at := way[0]; at > 1; way = append(way, at) {
			if skip := lastOneOff(at); skip > 0 {
				at = skip
			} else {
				at--
			}
		}
		slices.Reverse(way)
		pages := []int{0}
		for i, n := range way {
			pages = append(pages, r.onWay(n, first, pages[i]))
		}
		if len(way) != looks {
			t.Errorf("P15.9: the way has %d records", len(way))
		}
		for i, n := range way {
			r.finds(pages[len(way)], max(first, 1)+n-1, len(way)-i, r.at(pages[i+1]))
		}
	}
}

// P15.7, P15.9: the longest way that Add goes: over 28 Skips.
func TestFarthestSkip(t *testing.T) {
	r := begun(t, "P15.7", 100)
	r.filler(3)
	target := r.onWay(1<<29, 0, 2)
	head := target
	for bit := 27; bit >= 0; bit-- {
		head = r.onWay(1<<29+1<<28-1<<bit, 0, head)
	}
	before := r.loads()
	r.adds(head, api.Record{}, linked(1<<29+1<<28, 0, head, target))
	if n := r.loads() - before - 1; n != 29 { // one is the test's own
		t.Errorf("P15.7: %d looks, want 29", n)
	}
}
