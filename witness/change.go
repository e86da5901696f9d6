package witness

import (
	"ledger/api"
	"ledger/batch"
)

// parsed tells a batch's changes, their keys rising.
func parsed(raw []byte) ([]api.Change, api.Errno) {
	cs, _, e := batch.Parse(raw)
	if e != api.OK {
		return nil, e
	}
	return batch.Normal(cs)
}

// keysOf tells the keys that changes name.
func keysOf(cs []api.Change) []api.Key {
	var keys []api.Key
	for _, c := range cs {
		keys = append(keys, c.Key)
	}
	return keys
}

// answerOf tells what a change makes of its key.
func answerOf(c api.Change) api.Answer {
	if c.Del {
		return api.Answer{}
	}
	return api.Answer{Found: true, Val: c.Val}
}

// renew brings the claim up to date behind changes, their keys rising; behind are the digests that they make of the places in which they lie.
func (c *claim) renew(cs []api.Change, behind ways) {
	for number, k := range c.keys {
		own := &c.says[number]
		// From the last on: of those that lie in one neighbour the lowest is to stand in the end, as the neighbour's digest is kept under its number.
		for i := len(cs) - 1; i >= 0; i-- {
			common := batch.Common(k, cs[i].Key)
			if common == api.Height {
				own.answer = answerOf(cs[i])
				continue
			}
			parting := api.Height - 1 - common
			own.beside[parting] = behind[i][parting]
		}
	}
}

// part tells the bytes of the proof for the key of this number.
func (c *claim) part(number int) []byte {
	all := c.sums()
	alone := c.about(c.keys[number : number+1])
	own := &alone.says[0]
	own.answer = c.says[number].answer
	p := c.tree
	for {
		copy(own.beside[p.floor:p.top], c.says[p.low].beside[p.floor:p.top])
		if p.left == nil {
			return alone.raw()
		}
		on, other := p.left, p.right
		if number >= p.right.low {
			on, other = other, on
		}
		own.beside[other.top] = all[other.low][other.top]
		p = on
	}
}
