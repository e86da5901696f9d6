package span

import (
	"bytes"
	"slices"

	"ledger/api"
	"ledger/batch"
	"ledger/node"
)

// emptyText is the text of a single key's place where there is none.
const emptyText = 2

// view is what one of two proofs says of the place that the search has come to.
type view struct {
	text  text
	shown []api.Entry
}

// parting tells two unlike texts with one digest, out of two proofs that hold under one root and show unlike entries.
func parting(sc scale, one, two proven) (x, y []byte) {
	var down func(height int, a, b view) ([]byte, []byte)
	down = func(height int, a, b view) ([]byte, []byte) {
		// What is left down here are the texts of one key's unlike answers.
		if height == 0 {
			return endText(a.text), endText(b.text)
		}
		p, q := sc.opened(a.text, height), sc.opened(b.text, height)
		x, y := sc.branchText(p), sc.branchText(q)
		if !bytes.Equal(x, y) {
			return x, y
		}
		aLeft, aRight := a.halves(p, height)
		bLeft, bRight := b.halves(q, height)
		if !alike(aLeft.shown, bLeft.shown) {
			return down(height-1, aLeft, bLeft)
		}
		return down(height-1, aRight, bRight)
	}
	return down(api.Height, view{one.whole.text, one.shown}, view{two.whole.text, two.shown})
}

// endText tells the bytes whose digest is that of a single key's place.
func endText(t text) []byte {
	switch t := t.(type) {
	case lone:
		return node.LeafText(t.Key, t.Val)
	}
	return []byte{emptyText}
}

// opened tells what lies in both halves of a touched place above the height 0.
func (s scale) opened(t text, height int) pair {
	switch t := t.(type) {
	case pair:
		return t
	case lone:
		return s.spread(t, height)
	}
	nothing := part{none{}, s.empty[height-1]}
	return pair{nothing, nothing}
}

// spread tells a lone text as pairs all the way down to its key: so the way up to its digests is gone once, not at each height anew.
func (s scale) spread(l lone, height int) pair {
	var above pair
	at := s.leaf(l)
	for h := range height {
		above = s.alone(l.Key, at, h)
		at = part{above, s.branch(above)}
	}
	return above
}

// halves tells what is said of the two halves of a view's place, which p has opened.
func (v view) halves(p pair, height int) (left, right view) {
	inRight := func(x api.Entry) bool { return batch.Bit(x.Key, api.Height-height) == 1 }
	first := slices.IndexFunc(v.shown, inRight)
	if first < 0 {
		first = len(v.shown)
	}
	return view{p.left.text, v.shown[:first]}, view{p.right.text, v.shown[first:]}
}

// alike tells whether two lists show the same.
func alike(a, b []api.Entry) bool {
	return slices.EqualFunc(a, b, func(x, y api.Entry) bool {
		return x.Key == y.Key && bytes.Equal(x.Val, y.Val)
	})
}
