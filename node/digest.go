package node

import (
	"slices"

	"ledger/api"
	"ledger/batch"
	"ledger/digest"
)

// The first byte of a text says of what it is the text: so no two kinds of things have one text.
const (
	leafMark = iota
	branchMark
	emptyMark
)

// LeafText tells the bytes whose digest a leaf's is.
func LeafText(k api.Key, val []byte) []byte {
	return slices.Concat([]byte{leafMark}, k[:], val)
}

// BranchText tells the bytes whose digest a branch's is.
func BranchText(width int, l, r api.Digest) []byte {
	w := min(max(width, 0), api.MaxWidth)
	return slices.Concat([]byte{branchMark}, l[:w], r[:w])
}

// Leaf tells the digest of a key with its value.
func Leaf(width int, k api.Key, val []byte) api.Digest {
	return digest.Cut(digest.Sum(LeafText(k, val)), width)
}

// Branch tells the digest of two subtrees beside one another.
func Branch(width int, l, r api.Digest) api.Digest {
	return digest.Cut(digest.Sum(BranchText(width, l, r)), width)
}

// Empty tells the digest of an empty subtree.
func Empty(width, height int) api.Digest {
	d := digest.Cut(digest.Sum([]byte{emptyMark}), width)
	for range within(height) {
		d = Branch(width, d, d)
	}
	return d
}

// Climb tells the digest that a subtree has further up on a key's path if nothing else is there.
func Climb(width int, k api.Key, from int, d api.Digest, to int) api.Digest {
	from, to = within(from), within(to)
	if from >= to {
		return digest.Cut(d, width)
	}
	// The empty neighbour climbs along: to begin anew from height 0 at each step would hash many times as much.
	empty := Empty(width, from)
	for h := from; h < to; h++ {
		if batch.Bit(k, api.Height-1-h) == 0 {
			d = Branch(width, d, empty)
		} else {
			d = Branch(width, empty, d)
		}
		empty = Branch(width, empty, empty)
	}
	return d
}

// within tells a height as it counts: none lies below a single key's place or above the root.
func within(height int) int {
	return min(max(height, 0), api.Height)
}
