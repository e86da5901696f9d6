package walk

import (
	"ledger/api"
	"ledger/batch"
	"ledger/node"
	"ledger/store"
)

// byteBits is how many bits of a path one byte of a key holds.
const byteBits = 8

// place is where a page stands in a tree, as it is known from above, ahead of a look at the page.
type place struct {
	page  int     // 0 where there is none
	count int     // how many keys its branch states for it; of a root 0, as nobody states it
	above int     // the page of its branch, which must be the higher number
	row   api.Key // the bits that its keys begin with, and zeros behind them: so its low end
	depth int     // how many bits these are, and which bit parts its children
}

// whole tells the place of a tree's root: above stands what any page is below.
func whole(root int) place {
	return place{page: root, above: api.MaxPages}
}

// children tells the two places beneath a branch that stands in p.
func (p place) children(n api.Node) (left, right place) {
	left, right = p.halves()
	left.page, left.count, left.above = n.Left, n.LeftCount, p.page
	right.page, right.count, right.above = n.Right, n.RightCount, p.page
	return left, right
}

// halves tells the two places beneath p, with nothing in them.
func (p place) halves() (left, right place) {
	left = place{row: p.row, depth: p.depth + 1}
	right = left
	right.row[p.depth/byteBits] |= byte(128) >> (p.depth % byteBits)
	return left, right
}

// below tells whether all of a place's keys are below k.
func (p place) below(k api.Key) bool {
	return batch.Common(p.row, k) < p.depth && batch.Compare(p.row, k) < 0
}

// behind tells whether all of a place's keys are above k.
func (p place) behind(k api.Key) bool {
	return batch.Compare(p.row, k) > 0
}

// fits tells whether a node may stand in p.
func (p place) fits(n api.Node) bool {
	if p.count != 0 && p.count != keysOf(n) {
		return false
	}
	if n.Kind == api.KindBranch {
		return p.depth < api.Height
	}
	return batch.Common(n.Key, p.row) >= p.depth
}

// look tells the node of a place that has a page.
func look(s *store.Store, p place) (api.Node, api.Errno) {
	// Numbers that only fall are what makes every way down end: this is asked ahead of the page itself.
	if p.page >= p.above {
		return api.Node{}, api.ErrCorrupt
	}
	kind, load, e := s.Load(p.page)
	if e != api.OK {
		return api.Node{}, e
	}
	n, e := node.Decode(kind, load)
	if e != api.OK || !p.fits(n) {
		return api.Node{}, api.ErrCorrupt
	}
	return n, api.OK
}

// keysOf tells how many keys a node says are there.
func keysOf(n api.Node) int {
	if n.Kind == api.KindLeaf {
		return 1
	}
	return n.LeftCount + n.RightCount
}

// entryOf tells what a leaf holds.
func entryOf(n api.Node) api.Entry {
	return api.Entry{Key: n.Key, Val: n.Val}
}
