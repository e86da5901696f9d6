package proof

import (
	"slices"

	"ledger/api"
	"ledger/batch"
	"ledger/node"
	"ledger/store"
)

// byteBits is how many heights one byte of a proof's bits tells of.
const byteBits = 8

// place is where a page of a key's path stands, as it is known from above, ahead of a look at the page.
type place struct {
	page  int // 0 where there is none
	count int // how many keys its branch states for it; of a root 0, as nobody states it
	above int // the page of its branch, which must be the higher number
	depth int // how many first bits of the key lead here, and which bit parts the children
}

// child is what a branch states of one of its sides.
type child struct {
	page, count int
	sum         api.Digest
}

// neighbour is a subtree beside a key's path that is not bound to be empty.
type neighbour struct {
	height int
	sum    api.Digest
}

// path is what a key's path through a tree has shown.
type path struct {
	key    api.Key
	beside []neighbour // those that the branches state, heights falling
	leaf   api.Node    // at its end; the zero Node where it ends at no page
}

// follow goes down a key's path from the root's page on.
func follow(s *store.Store, root int, k api.Key) (path, api.Errno) {
	way := path{key: k}
	// Of a root no branch states a page above: any number is below this one.
	at := place{page: root, above: api.MaxPages}
	for at.page != 0 {
		n, stands := look(s, at, k)
		if !stands {
			return path{}, api.ErrCorrupt
		}
		if n.Kind == api.KindLeaf {
			way.leaf = n
			break
		}
		near, far := sides(n, batch.Bit(k, at.depth))
		if far.page != 0 {
			way.beside = append(way.beside, neighbour{api.Height - 1 - at.depth, far.sum})
		}
		at = place{page: near.page, count: near.count, above: at.page, depth: at.depth + 1}
	}
	return way, api.OK
}

// look tells the node of a place that has a page, and whether it stands there.
func look(s *store.Store, at place, k api.Key) (api.Node, bool) {
	// Numbers that only fall are what makes every path end: this is asked ahead of the page itself.
	if at.page >= at.above {
		return api.Node{}, false
	}
	kind, load, e := s.Load(at.page)
	if e != api.OK {
		return api.Node{}, false
	}
	n, e := node.Decode(kind, load)
	return n, e == api.OK && at.fits(n, k)
}

// fits tells whether a node may stand in this place on the path of k.
func (at place) fits(n api.Node, k api.Key) bool {
	if at.count != 0 && at.count != keysOf(n) {
		return false
	}
	if n.Kind == api.KindBranch {
		return at.depth < api.Height
	}
	return batch.Common(n.Key, k) >= at.depth
}

// keysOf tells how many keys a node says are there.
func keysOf(n api.Node) int {
	if n.Kind == api.KindLeaf {
		return 1
	}
	return n.LeftCount + n.RightCount
}

// sides tells a branch's child on the side of a path's bit, and the other one.
func sides(n api.Node, bit int) (near, far child) {
	left := child{n.Left, n.LeftCount, n.LeftSum}
	right := child{n.Right, n.RightCount, n.RightSum}
	if bit == 0 {
		return left, right
	}
	return right, left
}

// proof tells what the path shows of its key.
func (p path) proof(width int) api.Proof {
	if p.leaf.Kind == api.KindLeaf && p.leaf.Key == p.key {
		bits, sums := named(width, p.beside)
		return api.Proof{Found: true, Val: p.leaf.Val, Bits: bits, Sums: sums}
	}
	beside := p.beside
	if p.leaf.Kind == api.KindLeaf {
		// It stands in its place, so it shares more bits with the key than lead there: its height is below those of all others.
		beside = append(beside, parted(width, p.key, p.leaf))
	}
	bits, sums := named(width, beside)
	return api.Proof{Bits: bits, Sums: sums}
}

// parted tells the neighbour of a key that another key's leaf is, if nothing else lies beside it.
func parted(width int, k api.Key, leaf api.Node) neighbour {
	height := api.Height - 1 - batch.Common(k, leaf.Key)
	sum := node.Leaf(width, leaf.Key, leaf.Val)
	return neighbour{height, node.Climb(width, leaf.Key, 0, sum, height)}
}

// named tells the bits and the digests of the neighbours that a proof names: those that are not as if they were empty.
func named(width int, beside []neighbour) (bits [api.Height / byteBits]byte, sums []api.Digest) {
	// The empty subtree climbs along: to begin anew at each neighbour would hash many times as much.
	empty, height := node.Empty(width, 0), 0
	for _, n := range slices.Backward(beside) {
		for ; height < n.height; height++ {
			empty = node.Branch(width, empty, empty)
		}
		if n.sum == empty {
			continue
		}
		bits[n.height/byteBits] |= 1 << (n.height % byteBits)
		sums = append(sums, n.sum)
	}
	return bits, sums
}
