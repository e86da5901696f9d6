package witness

import (
	"slices"

	"ledger/api"
)

// text is a place's text while it is made: the place climbs, and its neighbours come in one by one.
type text struct {
	head []byte // the mark, and of a found key its value
	bits [bitsSize]byte
	sums []byte
	tail []byte // the texts of both sides of a fork
}

// raw tells the bytes of the text as far as it has come.
func (t text) raw() []byte {
	return slices.Concat(t.head, t.bits[:], t.sums, t.tail)
}

// raw tells the bytes of the witness that says what the claim does.
func (c *claim) raw() []byte {
	if c.tree == nil {
		return nil
	}
	end := func(p *place) text { return text{head: headOf(c.says[p.low].answer)} }
	beside := func(p *place, height int, below text) text {
		sum := c.says[p.low].beside[height]
		if sum == c.empty[height] {
			return below
		}
		below.bits[height/byteBits] |= 1 << (height % byteBits)
		below.sums = append(below.sums, sum[:]...)
		return below
	}
	fork := func(_ *place, l, r text) text {
		return text{head: []byte{markFork}, tail: slices.Concat(l.raw(), r.raw())}
	}
	return fold(c.tree, end, beside, fork).raw()
}

// headOf tells the bytes of what is said of one key.
func headOf(a api.Answer) []byte {
	if !a.Found {
		return []byte{markMissing}
	}
	return slices.Concat([]byte{markFound, byte(len(a.Val)), byte(len(a.Val) >> byteBits)}, a.Val)
}
