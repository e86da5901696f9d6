package tree

import (
	"ledger/api"
	"ledger/batch"
	"ledger/node"
	"ledger/store"
)

// byteBits is how many bits of a row one byte of a key holds.
const byteBits = 8

// part is a subtree as it is known from above: what its branch states of it, or what an update makes of it.
type part struct {
	page, count int        // both 0 where there is no key; a whole tree's count is 0 too, as nobody states it
	row         api.Key    // its first Height - height bits are those that the part's keys begin with
	height      int        // where the part stands and sum is its digest
	sum         api.Digest // as it is stated: also what lies behind the width
	above       int        // the page of its branch, which must be the higher number
	fresh       bool       // drafted in this call: sum is not known ahead of its staging
}

// whole tells the part that a whole tree is: above stands what any page is below.
func whole(root int) part {
	return part{page: root, height: api.Height, above: api.MaxPages}
}

// depth tells how many bits the part's row has: so it is the number of the bit that parts its two children.
func (p part) depth() int { return api.Height - p.height }

// children tells the two parts of a branch that stands in p's place.
func (p part) children(n api.Node) (left, right part) {
	left = part{page: n.Left, count: n.LeftCount, sum: n.LeftSum, row: p.row, height: p.height - 1, above: p.page}
	right = part{page: n.Right, count: n.RightCount, sum: n.RightSum, row: p.row, height: p.height - 1, above: p.page}
	right.row[p.depth()/byteBits] |= byte(128) >> (p.depth() % byteBits)
	return left, right
}

// look tells the node of a part that is not empty, and gives up where it does not stand.
func look(s *store.Store, p part) api.Node {
	if p.page >= p.above {
		panic(broken{})
	}
	kind, load, e := s.Load(p.page)
	if e != api.OK {
		panic(broken{})
	}
	n, e := node.Decode(kind, load)
	if e != api.OK || !p.fits(n) {
		panic(broken{})
	}
	return n
}

// fits tells whether a node may stand in p's place.
func (p part) fits(n api.Node) bool {
	if p.count != 0 && p.count != keysOf(n) {
		return false
	}
	if n.Kind == api.KindBranch {
		return p.height > 0
	}
	return batch.Common(n.Key, p.row) >= p.depth()
}

// keysOf tells how many keys a node says are there: the zero Node none.
func keysOf(n api.Node) int {
	if n.Kind == api.KindLeaf {
		return 1
	}
	return n.LeftCount + n.RightCount
}

// leafOnPath tells the leaf at the end of a key's path, the zero Node where it ends at no page.
func leafOnPath(s *store.Store, root int, k api.Key) api.Node {
	p := whole(root)
	for p.page != 0 {
		n := look(s, p)
		if n.Kind == api.KindLeaf {
			return n
		}
		left, right := p.children(n)
		if batch.Bit(k, p.depth()) == 0 {
			p = left
		} else {
			p = right
		}
	}
	return api.Node{}
}
