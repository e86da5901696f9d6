package walk

import (
	"iter"

	"ledger/api"
	"ledger/batch"
	"ledger/store"
)

// course is what a range goes through: a tree's entries with keys from lo to hi.
type course struct {
	store  *store.Store
	root   int
	lo, hi api.Key
}

// highest tells the key that none is above.
func highest() api.Key {
	var k api.Key
	for i := range k {
		k[i] = 255
	}
	return k
}

// entries gives the course's entries in rising order, and tells how each look at a page went; behind one that was refused it ends.
func (c course) entries(told func(api.Errno)) iter.Seq[api.Entry] {
	return func(yield func(api.Entry) bool) {
		// Right children wait here, unseen, until all to the left of them has been given.
		waiting := []place{whole(c.root)}
	subtrees:
		for len(waiting) > 0 {
			last := len(waiting) - 1
			p := waiting[last]
			waiting = waiting[:last]
			for {
				if !c.meets(p) {
					continue subtrees
				}
				n, e := look(c.store, p)
				told(e)
				if e != api.OK {
					return
				}
				if n.Kind == api.KindLeaf {
					if c.holds(n.Key) && !yield(entryOf(n)) {
						return
					}
					continue subtrees
				}
				left, right := p.children(n)
				waiting = append(waiting, right)
				p = left
			}
		}
	}
}

// meets tells whether a place has a page that must be looked at: keys of the course may lie beneath it.
func (c course) meets(p place) bool {
	return p.page != 0 && !p.below(c.lo) && !p.behind(c.hi)
}

// holds tells whether a key belongs to the course.
func (c course) holds(k api.Key) bool {
	return batch.Compare(k, c.lo) >= 0 && batch.Compare(k, c.hi) <= 0
}
