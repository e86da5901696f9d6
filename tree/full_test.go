package tree_test

import (
	"fmt"
	"slices"
	"testing"

	"ledger/api"
)

// P10.13: a disk of just so many pages as the cost asks for takes an update; one page less, and it does not.
func TestDisksOfJustSoManyPages(t *testing.T) {
	base := keyOf("0101")
	m := entries{base: "b", keyB: "y", flipped(base, 40): "40", flipped(keyB, 3): "3"}
	lists := [][]api.Change{
		{put(base, "other")},
		{put(keyB, "other")},
		{put(single(200), "new")},
		{put(flipped(base, 255), "new")},
		{del(base)},
		{del(keyB), del(flipped(keyB, 3))},
		{del(base), del(flipped(base, 40)), put(keyB, "other")},
		{put(keyK, ""), put(single(1), ""), put(single(2), ""), del(keyC)},
	}
	used := (entries{}).costTo(m)
	for i, cs := range lists {
		cost := m.costTo(m.behind(cs))
		for _, free := range []int{cost - 1, cost, cost + 1} {
			r := begun(t, fmt.Sprintf("P10.13: list %d, %d of %d pages", i, free, cost), 2+used+free, 4)
			root, _ := r.asRead(0, m.puts()...)
			if free%2 == 0 { // a cost is held against staged pages as it is against flushed ones
				r.flush()
			}
			r.costs(root, cost, cs...)
			if free < cost {
				r.unstaged(func() { r.updatesNot(root, api.ErrFull, cs...) })
				r.isMap(root, m)
				continue
			}
			behind, _ := r.asRead(root, cs...)
			r.isMap(behind, m.behind(cs))
		}
	}
}

// P10.13: the first list is held against the disk too, and a cost of 257 against one of 258 pages.
func TestFirstListOnASmallDisk(t *testing.T) {
	for pages := 3; pages < 8; pages++ {
		r := begun(t, "P10.13", pages, 4)
		r.asRead(0, put(keyK, "x"), put(keyB, "y"))
		if full := r.s.Next() == 2; full != (pages < 5) {
			t.Errorf("P10.13: of %d pages %d are used", pages, r.s.Next())
		}
	}
	for _, pages := range []int{258, 259, 260} {
		r := begun(t, "P10.13", pages, 4)
		r.updates(0, 2, 1, put(keyK, "x"))
		r.asRead(2, put(keyC, "z"))
		if full := r.s.Next() == 3; full != (pages < 260) {
			t.Errorf("P10.13: of %d pages %d are used", pages, r.s.Next())
		}
	}
}

// P10.13: where nothing is free, what costs nothing is taken.
func TestNothingFree(t *testing.T) {
	for _, flushed := range []bool{false, true} {
		r := begun(t, "P10.13", 5, 4)
		r.updates(0, 4, 3, put(keyK, "x"), put(keyB, "y"))
		if flushed {
			r.flush()
		}
		r.unstaged(func() {
			r.updates(4, 4, 0)
			r.updates(0, 0, 0)
			r.updates(4, 4, 0, put(keyK, "x"), put(keyB, "y"), del(keyC))
			r.updates(4, 3, 0, del(keyK))
			r.updates(4, 2, 0, del(keyB), put(keyK, "x"))
			r.updates(4, 0, 0, del(keyK), del(keyB))
			r.updates(2, 0, 0, del(keyK))
			r.updates(0, 0, 0, del(keyK))
			for _, root := range []int{0, 2, 3, 4} {
				r.updatesNot(root, api.ErrFull, put(keyC, "z"))
				r.updatesNot(root, api.ErrFull, put(keyK, "other"), del(keyB))
			}
			r.costs(4, 2, put(keyK, "other"))
			r.costs(4, 1, put(keyK, "other"), del(keyB))
			r.costs(4, 257, put(keyC, "z"))
		})
	}
}

// spread tells a key that differs from all others of an i below 4096 in its first 12 bits.
func spread(i int) api.Key { return api.Key{byte(i >> 4), byte(i << 4)} }

// puts tells the list that puts so many keys that are spread, from one on.
func puts(from, n int) (cs []api.Change) {
	for i := range n {
		cs = append(cs, put(spread(from+i), ""))
	}
	return cs
}

// P10.15, P10.12: lists of up to 4096 changes are taken, and their cost is told, however far it is beyond any disk.
func TestLongLists(t *testing.T) {
	r := begun(t, "P10.15", 4096, 4)
	var dels, pairs []api.Change
	for i := range 4096 {
		dels = append(dels, del(spread(i)))
	}
	for i := range 2048 {
		pairs = append(pairs, put(spread(2*i), ""), put(flipped(spread(2*i), 255), ""))
	}
	r.updates(0, 0, 0, dels...)
	r.costs(0, 8191, puts(0, 4096)...)
	r.updatesNot(0, api.ErrFull, puts(0, 4096)...)
	r.costs(0, 4096+2047+2048*245, pairs...)
	r.updatesNot(0, api.ErrFull, pairs...)
	r.refuses(0, api.ErrMany, append(slices.Clone(dels), del(keyC))...)

	root := r.updates(0, 2+2048, 2049, puts(0, 1024)...) // all under the row 00: two branches more
	r.counts(root, 1024)
	r.updates(root, root, 0, append(puts(0, 1024), dels[1024:]...)...)
	r.updates(root, 0, 0, dels...)
	r.updates(root, 2, 0, append(slices.Clone(dels[1:]), put(spread(0), ""))...)
	behind := r.updates(root, r.s.Next()+2, 3, dels[512:]...)
	r.counts(behind, 512)
}
