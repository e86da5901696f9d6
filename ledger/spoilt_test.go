package ledger_test

import (
	"fmt"
	"slices"
	"testing"

	"ledger/api"
	"ledger/ledger"
)

// history makes a ledger of many versions with some keys, for spoilt pages.
func history(t *testing.T, promise string, r *rig) *rig {
	t.Helper()
	r.promise = promise
	a, b, c := keyOf("000"), keyOf("001"), keyOf("0101")
	r.commits(put(keyK, "a"))
	r.commits(put(keyQ, "b"), put(a, "1"))
	r.commits(put(b, "2"))
	r.commits()
	r.commits(put(c, "3"), del(keyK))
	r.commits(put(a, "4"))
	r.commits(del(keyQ), put(high, "z"))
	r.commits(del(a), del(b))
	r.commits(put(keyK, "k"))
	return r
}

// P16.22: of a ledger with one spoilt page, opened behind that, just those calls are refused that look at the page; all others answer as if nothing were spoilt.
func TestSpoiltPages(t *testing.T) {
	for name, begin := range map[string]func(t *testing.T) *rig{
		"from 0 on": func(t *testing.T) *rig { return history(t, "P16.22", begun(t, "", 100, 4, 8)) },
		"from 5 on": func(t *testing.T) *rig {
			return history(t, "P16.22", based(t, "", 100, 4, 8, 5, entries{keyK: "x", keyOf("1"): "y"}))
		},
		"from 1 on": func(t *testing.T) *rig { return history(t, "P16.22", based(t, "", 100, 1, 8, 1, entries{})) },
		"deep":      deep,
	} {
		t.Run(name, func(t *testing.T) {
			t.Parallel()
			spoilOneByOne(begin(t))
		})
	}
}

// spoilOneByOne spoils page by page of a ledger, and asks all calls each time.
func spoilOneByOne(whole *rig) {
	whole.Helper()
	x := read(whole.d.Image())
	if pages := x.laidPages(); len(pages) != whole.m.used-2 {
		whole.fails("%d pages are laid, %d used", len(pages), whole.m.used)
	}
	for page := 2; page < x.head; page++ {
		if page > 40 && page%53 != 0 {
			continue
		}
		r := whole.spoil(page, page*97%2048, 1)
		r.open(1)
		r.meets([]api.Key{keyK, keyOf("001"), keyOf("0101"), high})
		if r.Failed() {
			return
		}
	}
}

// deep makes a ledger whose tree has a long path.
func deep(t *testing.T) *rig {
	t.Helper()
	r := begun(t, "P16.22, deep", 800, 32, 8)
	r.commits(put(keyK, "a"))
	r.commits(put(keyM, "b"))
	r.commits(put(keyQ, "c"))
	return r
}

// meets asks all calls of a ledger with a spoilt page.
func (r *rig) meets(keys []api.Key) {
	r.Helper()
	r.quiet(func() {
		r.Helper()
		r.info()
		for _, v := range r.versions() {
			r.root(v)
			for _, w := range r.versions() {
				r.diff(v, w)
			}
			for i, k := range keys {
				r.get(k[:], v)
				r.prove(k[:], v)
				to := keys[(i+i%2)%4] // a key alone, or all up to the next one
				r.span(k[:], to[:], v)
				for _, m := range keys[i:] {
					r.scan(k[:], m[:], v, 1)
				}
			}
			for _, limit := range []int{0, 1, 2, 1000} {
				r.scan(low[:], high[:], v, limit)
			}
		}
		for _, k := range keys {
			r.preview(raw(put(k, "new")))
			r.preview(raw(del(k)))
		}
	})
	for _, cs := range [][]api.Change{{}, {del(keyK)}, {put(keyK, "new"), del(high)}, {del(keyOf("0101")), del(high)}} {
		s := &rig{r.T, r.promise, loaded(r.T, r.d.Image()), nil, r.m.twin(), 1}
		laid := *r.m.laid
		s.m.laid = &laid
		s.open(1)
		s.preview(raw(cs...))
		s.commit(raw(cs...))
	}
}

// P16.22, P16.23: a call at the newest version looks at no record; Info and Root at the newest version look at no page at all.
func TestNewestLooksAtNoRecord(t *testing.T) {
	whole := history(t, "P16.22", begun(t, "", 100, 4, 8))
	x := read(whole.d.Image())
	for name, pages := range map[string][]int{"all records": x.recordPages(), "all pages": x.laidPages()} {
		r := whole.reopened(1)
		r.promise = "P16.22: spoilt: " + name
		for _, page := range pages {
			r.d.Flip(page, 400, 9)
		}
		r.quiet(func() {
			before := r.d.Counts()
			r.info()
			r.root(-1)
			r.root(r.m.last())
			if r.d.Counts() != before {
				r.fails("a page was read")
			}
			if name == "all pages" {
				return
			}
			for _, v := range []int{-1, r.m.last()} {
				r.ask(v, low, keyK, high)
				r.diff(v, -1)
			}
			r.preview(raw(put(keyK, "new")))
		})
	}
}

// recordPages tells the pages of all records.
func (x *reading) recordPages() (pages []int) {
	for page := x.head; page != 0; page = x.record(page).Prev {
		pages = append(pages, page)
	}
	return pages
}

// P16.22: which pages are read from the disk where nothing is in the cache: each read loads at most those that are looked at.
func TestReadsOfTheDisk(t *testing.T) {
	t.Parallel()
	whole := history(t, "P16.22", begun(t, "", 100, 4, 8))
	x := read(whole.d.Image())
	for v := -1; v <= whole.m.last(); v++ {
		for _, k := range []api.Key{low, keyK, keyOf("0101"), high} {
			r := whole.reopened(1)
			looked, root := x.find(v)
			looked = append(looked, x.path(root, k)...)
			before := r.d.Counts().Reads
			r.get(k[:], v)
			if n := r.d.Counts().Reads - before; n > len(looked) {
				r.fails("Get(%x, %d) has read %d pages, want at most %v", k, v, n, looked)
			}
			before = r.d.Counts().Reads
			r.prove(k[:], v)
			if n := r.d.Counts().Reads - before; n > len(looked) {
				r.fails("Prove(%x, %d) has read %d pages, want at most %v", k, v, n, looked)
			}
		}
	}
}

// P16.15: At of a Diff is the version whose record does not stand, the first one's where both do not; where a node does not stand it is the first version.
func TestWhereADiffIsRefused(t *testing.T) {
	t.Parallel()
	whole := history(t, "P16.15", begun(t, "", 100, 4, 8))
	x := read(whole.d.Image())
	seen := map[string]bool{}
	for page := 2; page < x.head; page++ {
		r := whole.spoil(page, 5, 1)
		r.open(1)
		for v := -1; v <= r.m.last(); v++ {
			for w := -1; w <= r.m.last(); w++ {
				one, _ := x.find(v)
				two, _ := x.find(w)
				var at int
				var why string
				switch {
				case slices.Contains(one, page):
					at, why = v, "the first record"
				case slices.Contains(two, page):
					at, why = w, "the second record"
				default:
					continue
				}
				seen[why] = true
				if cs, err := r.l.Diff(v, w); cs != nil || !isRefusal(err, "diff", at, api.ErrCorrupt) {
					r.fails("%s: Diff(%d, %d) = %v, %v", why, v, w, cs, err)
				}
				// That a version is none comes ahead of all records.
				for _, none := range []int{-2, r.m.last() + 1} {
					if _, err := r.l.Diff(v, none); !isRefusal(err, "diff", none, api.ErrVersion) {
						r.fails("Diff(%d, %d): %v", v, none, err)
					}
					if _, err := r.l.Diff(none, w); !isRefusal(err, "diff", none, api.ErrVersion) {
						r.fails("Diff(%d, %d): %v", none, w, err)
					}
				}
			}
		}
	}
	if len(seen) != 2 {
		t.Error(seen)
	}
}

// W5: bits are flipped behind the back of a ledger that stays open: each call is refused with ErrCorrupt or answers as if nothing were flipped.
func TestFlippedBehindItsBack(t *testing.T) {
	t.Parallel()
	whole := history(t, "W5", begun(t, "", 100, 4, 8))
	keys := []api.Key{low, keyK, keyOf("0101"), high}
	for page := range whole.m.used {
		for _, room := range []int{1, 3, 4096} {
			r := whole.reopened(room)
			r.promise = fmt.Sprintf("W5: page %d, room %d", page, room)
			r.ask(-1, keyK)
			r.d.Flip(page, page*53%2048, 0x80000001)
			for v := -1; v <= r.m.last(); v++ {
				sum, err := r.l.Root(v)
				r.orCorrupt(err, sum == r.m.at(v).sum(4, ""))
				for _, k := range keys {
					a, err := r.l.Get(k[:], v)
					val, found := r.m.at(v)[k]
					r.orCorrupt(err, a.Found == found && string(a.Val) == val)
				}
				cs, err := r.l.Diff(v, 3)
				r.orCorrupt(err, sameChanges(cs, r.m.at(v).diff(r.m.at(3))))
			}
			sum, n, err := r.l.Preview(raw(put(keyK, "new"), del(high)))
			next := r.m.newest().behind([]api.Change{put(keyK, "new"), del(high)})
			r.orCorrupt(err, sum == next.sum(4, "") && n == cost(r.m.newest(), next)+1)
			v, err := r.l.Commit(raw(put(keyK, "new"), del(high)))
			r.orCorrupt(err, v == r.m.last()+1)
			if err == nil {
				r.m.commit([]api.Change{put(keyK, "new"), del(high)})
			}
			r.info()
			l, err := ledger.Open(r.d, room)
			r.orCorrupt(err, l != nil)
		}
	}
}

// orCorrupt asks that a call was refused with ErrCorrupt, or answered right.
func (r *rig) orCorrupt(err error, right bool) {
	r.Helper()
	if err == nil && !right || err != nil && ledger.Code(err) != api.ErrCorrupt {
		r.fails("a wrong answer, or %v", err)
	}
}
