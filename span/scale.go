package span

import (
	"ledger/api"
	"ledger/batch"
	"ledger/node"
)

// scale is what a call works digests out with.
type scale struct {
	width int
	// The empty subtree's digest by its height: to begin anew at each place would hash many times as much.
	empty []api.Digest
}

// scaleOf makes the scale of a width.
func scaleOf(width int) scale {
	empty := []api.Digest{node.Empty(width, 0)}
	for h := range api.Height {
		empty = append(empty, node.Branch(width, empty[h], empty[h]))
	}
	return scale{width, empty}
}

// outer tells the text of an outside place by its digest.
func (s scale) outer(d api.Digest, height int) text {
	if d == s.empty[height] {
		return none{}
	}
	return sum(d)
}

// leaf tells a lone text at the place of its key alone.
func (s scale) leaf(l lone) part {
	return part{l, node.Leaf(s.width, l.Key, l.Val)}
}

// climbed tells a lone text at a place of this height.
func (s scale) climbed(l lone, height int) part {
	at := s.leaf(l)
	for h := range height {
		at.sum = s.branch(s.alone(l.Key, at, h))
	}
	return at
}

// alone tells the two halves of the place above one of this height on a key's path, if nothing lies beside it.
func (s scale) alone(k api.Key, p part, height int) pair {
	beside := part{none{}, s.empty[height]}
	if batch.Bit(k, api.Height-1-height) == 0 {
		return pair{p, beside}
	}
	return pair{beside, p}
}

// branch tells a pair's digest.
func (s scale) branch(p pair) api.Digest {
	return node.Branch(s.width, p.left.sum, p.right.sum)
}

// branchText tells the bytes whose digest a pair's is.
func (s scale) branchText(p pair) []byte {
	return node.BranchText(s.width, p.left.sum, p.right.sum)
}
