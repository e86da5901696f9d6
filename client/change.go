package client

import (
	"slices"

	"ledger/api"
	"ledger/batch"
	"ledger/node"
)

// end is where the path of a changed key ends: the digest that the change makes there, and what the key's proof says lies beside the path.
type end struct {
	key    api.Key
	sum    api.Digest
	beside []api.Digest
}

// made tells the digest of height 0 that a change makes.
func (t terms) made(c api.Change) api.Digest {
	if c.Del {
		return t.empty[0]
	}
	return node.Leaf(t.width, c.Key, c.Val)
}

// renewed tells what own's proof says behind a change; at is the proof for the changed key ahead of it.
func renewed(own, at *check, c api.Change) api.Proof {
	if own.key == c.Key {
		return own.written(answerOf(c), own.beside)
	}
	// The change lies within one neighbour of own's path, the one of the height at which the two keys part.
	parting := api.Height - 1 - batch.Common(own.key, c.Key)
	beside := slices.Clone(own.beside)
	beside[parting] = at.sumAt(at.made(c), parting)
	return own.written(api.Answer{Found: own.said.Found, Val: own.said.Val}, beside)
}

// answerOf tells what a change makes of its key.
func answerOf(c api.Change) api.Answer {
	if c.Del {
		return api.Answer{}
	}
	return api.Answer{Found: true, Val: c.Val}
}

// written tells a proof with these neighbours: those that are as if they were empty are left out.
func (t terms) written(a api.Answer, beside []api.Digest) api.Proof {
	p := api.Proof{Found: a.Found, Val: a.Val}
	for h, sum := range beside {
		if sum != t.empty[h] {
			p.Bits[h/byteBits] |= 1 << (h % byteBits)
			p.Sums = append(p.Sums, sum)
		}
	}
	return p
}

// ends tells the ends of all changes, their keys rising, if all proofs hold.
func (t terms) ends(cs []api.Change, raws [][]byte) ([]end, api.Errno) {
	var ends []end
	for i, c := range cs {
		at, e := t.held(c.Key, raws[i])
		if e != api.OK {
			return nil, e
		}
		ends = append(ends, end{c.Key, t.made(c), at.beside})
	}
	slices.SortFunc(ends, func(a, b end) int { return batch.Compare(a.key, b.key) })
	return ends, api.OK
}

// fold tells the digest of the subtree of a height in which all these ends lie; there is one at least, and their keys are unlike.
func fold(width int, ends []end, height int) api.Digest {
	if height == 0 {
		return ends[0].sum
	}
	below := height - 1
	lefts := leftOnes(ends, api.Height-height)
	// Where all lie on one side, what lies on the other one is what the proof of the lowest key says.
	l, r := ends[0].beside[below], ends[0].beside[below]
	if lefts > 0 {
		l = fold(width, ends[:lefts], below)
	}
	if lefts < len(ends) {
		r = fold(width, ends[lefts:], below)
	}
	return node.Branch(width, l, r)
}

// leftOnes tells how many ends, from the first on, have a 0 at this bit, which is the first in which their keys may differ.
func leftOnes(ends []end, bit int) int {
	for i, x := range ends {
		if batch.Bit(x.key, bit) == 1 {
			return i
		}
	}
	return len(ends)
}
