package client

import (
	"bytes"

	"ledger/api"
	"ledger/batch"
	"ledger/node"
)

// emptyMark is the whole text of an empty subtree of height 0.
const emptyMark = 2

// climb works a path out from the digest of height 0 on, and hands each height with its digest to at.
func (c *check) climb(sum api.Digest, at func(height int, sum api.Digest)) {
	at(0, sum)
	for h := range c.beside {
		l, r := c.sides(h, sum)
		sum = node.Branch(c.width, l, r)
		at(h+1, sum)
	}
}

// sides tells the path's digest of a height and its neighbour as they lie beside one another.
func (c *check) sides(height int, sum api.Digest) (l, r api.Digest) {
	if batch.Bit(c.key, api.Height-1-height) == 0 {
		return sum, c.beside[height]
	}
	return c.beside[height], sum
}

// sumAt tells the digest of one height on the path that begins with sum.
func (c *check) sumAt(sum api.Digest, height int) (found api.Digest) {
	c.climb(sum, func(h int, sum api.Digest) {
		if h == height {
			found = sum
		}
	})
	return found
}

// foot tells the digest of height 0 that the proof says.
func (c *check) foot() api.Digest {
	if c.said.Found {
		return node.Leaf(c.width, c.key, c.said.Val)
	}
	return c.empty[0]
}

// footText tells the text of height 0.
func (c *check) footText() []byte {
	if c.said.Found {
		return node.LeafText(c.key, c.said.Val)
	}
	return []byte{emptyMark}
}

// texts tells the texts of all heights.
func (c *check) texts() [][]byte {
	texts := [][]byte{c.footText()}
	c.climb(c.foot(), func(height int, sum api.Digest) {
		if height == api.Height {
			return
		}
		l, r := c.sides(height, sum)
		texts = append(texts, node.BranchText(c.width, l, r))
	})
	return texts
}

// highestUnlike tells the two texts of the greatest height at which they are unlike: above it the paths are one, so their digests are the same.
func highestUnlike(one, other [][]byte) ([]byte, []byte, bool) {
	for h := api.Height; h >= 0; h-- {
		if !bytes.Equal(one[h], other[h]) {
			return one[h], other[h], true
		}
	}
	return nil, nil, false
}
