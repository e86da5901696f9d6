package index_test

import (
	"testing"

	"ledger/api"
	"ledger/index"
)

// P15.6, P15.7: the links of a long row of records, from each kind of beginning; what r says of its own Version, First, Prev and Skip is not looked at.
func TestRowsOfRecords(t *testing.T) {
	for _, begin := range [][2]int{{1, 0}, {1, 1}, {2, 2}, {40, 40}, {top - 69, top - 69}} {
		r := begun(t, "P15.6", 100)
		head := r.adds(0, linked(begin[0], begin[1], 77, 78), linked(begin[0], begin[1], 0, 0))
		pages := []int{0, head} // by number
		for i := 2; i <= 70; i++ {
			if i%7 == 0 {
				r.filler(r.s.Next() + 1) // so that a page's number is not told by the record's
			}
			given := api.Record{Version: lowest, First: highest, Prev: -i, Skip: 1 << 40, Sum: sumOf(i)}
			want := api.Record{Version: begin[0] + i - 1, First: begin[1], Prev: head, Skip: pages[lastOneOff(i)], Sum: sumOf(i)}
			head = r.adds(head, given, want)
			pages = append(pages, head)
		}
		if begin[1] > 40 {
			r.addsNot(head, api.Record{Version: 1}, api.ErrRecord)
		}
	}
}

// P15.6: Root, Count and Sum are r's, with the root just below the record and far below it.
func TestRootsThatAreAdded(t *testing.T) {
	r := begun(t, "P15.6", 20)
	r.filler(4)
	head := r.adds(0, of(1, 3, 1), of(1, 3, 1))
	for i, c := range [][2]int{{2, 1}, {3, 4096}, {4, 7}, {0, 0}, {8, 4095}} { // also a record's own page may be named
		x := api.Record{Root: c[0], Count: c[1], Sum: sumOf(i)}
		want := x
		want.Version, want.Prev = i+2, head
		want.Skip = []int{0, 5, 0, 7, 7}[i]
		head = r.adds(head, x, want)
	}
}

// P15.6: several records behind one head; none of them touches the others.
func TestForks(t *testing.T) {
	r := eight(t, "P15.6")
	for head := 2; head <= 9; head++ {
		for seed := range 2 {
			next := r.s.Next()
			if next == r.s.Pages() {
				r.flush()
				break
			}
			want := api.Record{Version: head, Prev: head, Sum: sumOf(seed)}
			if i := lastOneOff(head); i > 0 {
				want.Skip = i + 1
			}
			page := r.adds(head, api.Record{Sum: sumOf(seed)}, want)
			r.finds(page, head, 1, want)
			r.rewind(next)
		}
	}
	r.adds(5, api.Record{Sum: sumOf(70)}, api.Record{Version: 5, Prev: 5, Skip: 5, Sum: sumOf(70)})
	r.adds(10, api.Record{Sum: sumOf(71)}, api.Record{Version: 6, Prev: 10, Skip: 5, Sum: sumOf(71)})
	r.finds(9, 5, 4, api.Record{Version: 5, Prev: 5, Skip: 5, Sum: sumOf(4)})
	r.finds(11, 5, 2, api.Record{Version: 5, Prev: 5, Skip: 5, Sum: sumOf(70)})
	r.finds(11, 4, 2, r.at(5))
}

// P15.7: how many records are looked at: the head alone where the new number is odd or a power of two, else the head and one for each digit that a Skip takes away.
func TestLooksOfAdd(t *testing.T) {
	looks := map[int]int{1: 0, 2: 1, 3: 1, 4: 1, 5: 1, 6: 2, 7: 1, 8: 1, 9: 1, 10: 2, 11: 1, 12: 3, 13: 1, 14: 2, 16: 1, 20: 3, 24: 4, 28: 3, 32: 1, 40: 4, 48: 5, 56: 4, 62: 2, 64: 1, 96: 6}
	for _, first := range []int{0, 1, 900} {
		r := begun(t, "P15.7", 120)
		head := 0
		for i := 1; i <= 100; i++ {
			before := r.loads()
			head = r.added(head, api.Record{Version: max(first, 1), First: first})
			if want := looks[i]; r.loads()-before != want && (want > 0 || i == 1) {
				t.Errorf("P15.7: First %d: the number %d: %d looks, want %d", first, i, r.loads()-before, want)
			}
		}
	}
}

// P15.5: which records may be the first one, whatever else lies in the store.
func TestFirstRecords(t *testing.T) {
	r := begun(t, "P15.5", 40)
	for _, filled := range []int{2, 5} {
		r.filler(filled)
		for _, c := range [][2]int{{1, 0}, {1, 1}, {2, 2}, {3, 3}, {4096, 4096}, {top - 1, top - 1}, {top, top}} {
			r.adds(0, linked(c[0], c[1], lowest, highest), linked(c[0], c[1], 0, 0))
		}
		for _, c := range [][2]int{
			{0, 0}, {2, 0}, {3, 0}, {top, 0}, {-1, 0}, {lowest, 0}, {highest, 0}, {0, 1}, {2, 1}, {-1, 1}, {1, 2}, {3, 2}, {1, 3}, {top - 1, top}, {top, top - 1},
			{top + 1, top}, {top, top + 1}, {top + 1, top + 1}, {highest, highest}, {lowest, lowest}, {-1, -1}, {1, -1}, {0, -1}, {-2, -1}, {highest, lowest}, {lowest, highest}, {1, lowest}, {1, highest}, {1<<32 + 1, 0}, {1 << 32, 1 << 32},
		} {
			r.addsNot(0, linked(c[0], c[1], 0, 0), api.ErrRecord)
		}
	}
}

// P15.5: behind the highest version there is none, from both sides of it.
func TestHighestVersion(t *testing.T) {
	r := begun(t, "P15.5", 30)
	r.addsNot(r.adds(0, linked(top, top, 0, 0), linked(top, top, 0, 0)), linked(1, 0, 0, 0), api.ErrRecord)
	one := r.adds(0, linked(top-1, top-1, 0, 0), linked(top-1, top-1, 0, 0))
	two := r.adds(one, linked(1, 0, 0, 0), linked(top, top-1, one, 0))
	r.addsNot(two, linked(1, 0, 0, 0), api.ErrRecord)
	// of First 0: the number is the version, the last one a power of two
	far := r.record(linked(top-1, 0, 2, 2))
	last := r.adds(far, linked(1, 0, 0, 0), linked(top, 0, far, 0))
	r.addsNot(last, linked(1, 0, 0, 0), api.ErrRecord)
	r.bounds(last, 0, top, api.OK)
	r.finds(last, top, 1, linked(top, 0, far, 0))
	r.finds(last, top-1, 2, linked(top-1, 0, 2, 2))
	r.findsNot(last, top+1, api.ErrVersion)
}

// P15.5, P15.6: a disk of all pages that there may be, up to its last one.
func TestGreatestDisk(t *testing.T) {
	r := begun(t, "P15.5", 4096)
	head := r.chain(1, 0, 4093)
	if head != 4094 {
		t.Fatal(head)
	}
	r.addsNot(head, api.Record{Root: 4095, Count: 1}, api.ErrPage)
	r.addsNot(head, api.Record{Root: 4094, Count: 4097}, api.ErrRecord)
	r.addsNot(4095, api.Record{}, api.ErrPage)
	last := r.adds(head, api.Record{Root: 4094, Count: 4096, Sum: sumOf(1)}, api.Record{Version: 4094, Prev: 4094, Skip: r.pageOf(head, 4092), Root: 4094, Count: 4096, Sum: sumOf(1)})
	r.addsNot(last, api.Record{Root: 4095, Count: 1}, api.ErrFull)
	r.addsNot(last, api.Record{Root: 4096, Count: 1}, api.ErrPage)
	r.addsNot(4096, api.Record{}, api.ErrPage)
	r.addsNot(0, linked(1, 0, 0, 0), api.ErrFull)
	r.addsNot(0, linked(2, 0, 0, 0), api.ErrRecord)
	r.flush()
	r.addsNot(last, api.Record{Root: 4095, Count: 1}, api.ErrFull)
	r.finds(last, 4094, 1, r.at(4095))
}

// pageOf tells the page of a version's record in a chain that has one record a page from page 2 on.
func (r *rig) pageOf(head, version int) int {
	r.Helper()
	x, _, e := index.Find(r.s, head, version)
	if e != api.OK || x != r.at(version+1) {
		r.Fatalf("%s: version %d: %+v, %v", r.promise, version, x, e)
	}
	return version + 1
}
