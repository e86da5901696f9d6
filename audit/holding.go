package audit

import (
	"bytes"
	"slices"

	"ledger/api"
	"ledger/batch"
)

// byteBits is how many bits of a row one byte of a key holds.
const byteBits = 8

// row is the bits that the keys of a subtree begin with. Those behind its length are zero: so rows are the same just where they are equal.
type row struct {
	bits   api.Key
	length int
}

// then tells the row with one bit more.
func (r row) then(bit byte) row {
	r.bits[r.length/byteBits] |= bit << (byteBits - 1 - r.length%byteBits)
	r.length++
	return r
}

// begins tells whether a key begins with the row.
func (r row) begins(k api.Key) bool { return batch.Common(r.bits, k) >= r.length }

// height tells at which height a subtree with this row stands.
func (r row) height() int { return api.Height - r.length }

// holding is which pages the tree of one version has: its branches by their rows, its leaves by their keys.
type holding struct {
	branches map[row]int
	leaves   map[api.Key]int
}

// nothing tells what the empty map's version has.
func nothing() holding {
	return holding{map[row]int{}, map[api.Key]int{}}
}

// page tells what stands in the place of a node: at the row of a branch, under the key of a leaf wherever it stands; 0 if there is none.
func (h holding) page(n api.Node, at row) int {
	if n.Kind == api.KindLeaf {
		return h.leaves[n.Key]
	}
	return h.branches[at]
}

// put lays a page into the place of its node.
func (h holding) put(page int, n api.Node, at row) {
	if n.Kind == api.KindLeaf {
		h.leaves[n.Key] = page
	} else {
		h.branches[at] = page
	}
}

// drop takes away what stands in the place of a node.
func (h holding) drop(n api.Node, at row) {
	if n.Kind == api.KindLeaf {
		delete(h.leaves, n.Key)
	} else {
		delete(h.branches, at)
	}
}

// pages tells all of them, rising.
func (h holding) pages() []int {
	var all []int
	for _, page := range h.branches {
		all = append(all, page)
	}
	for _, page := range h.leaves {
		all = append(all, page)
	}
	slices.Sort(all)
	return all
}

// alike tells whether two nodes in one place are such that the later one would not have been staged.
func alike(a, b api.Node) bool {
	return a.Left == b.Left && a.Right == b.Right && bytes.Equal(a.Val, b.Val)
}
