package span

import (
	"ledger/api"
	"ledger/batch"
)

// byteBits is how many bits of a path one byte of a key holds.
const byteBits = 8

// bounds are the two ends of a span, both of them in it.
type bounds struct{ lo, hi api.Key }

// crossed tells whether no key can lie between them.
func (b bounds) crossed() bool { return batch.Compare(b.lo, b.hi) > 0 }

// holds tells whether a key lies in the span.
func (b bounds) holds(k api.Key) bool {
	return batch.Compare(k, b.lo) >= 0 && batch.Compare(k, b.hi) <= 0
}

// touches tells whether keys of a place may lie in the span.
func (b bounds) touches(p place) bool {
	below := batch.Common(p.row, b.lo) < p.depth && batch.Compare(p.row, b.lo) < 0
	return !below && batch.Compare(p.row, b.hi) <= 0
}

// place is where a subtree stands; the zero place is the root's.
type place struct {
	row   api.Key // the bits that its keys begin with, and zeros behind them: so its low end
	depth int     // how many bits these are, and which bit parts its children
}

// height tells how far a place lies above that of a single key.
func (p place) height() int { return api.Height - p.depth }

// holds tells whether a key lies in the place.
func (p place) holds(k api.Key) bool { return batch.Common(p.row, k) >= p.depth }

// halves tells the places of its two children.
func (p place) halves() (left, right place) {
	left = place{p.row, p.depth + 1}
	right = left
	right.row[p.depth/byteBits] |= byte(128) >> (p.depth % byteBits)
	return left, right
}
