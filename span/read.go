package span

import (
	"bytes"

	"ledger/api"
	"ledger/digest"
)

// How many bytes the pieces of a text have.
const (
	markSize   = 1
	lengthSize = 2
	keySize    = len(api.Key{})
	sumSize    = len(api.Digest{})
)

// proven is what a proof says, if its root is believed.
type proven struct {
	whole part
	shown []api.Entry // those in the span, keys rising
}

// reader takes a proof's bytes off, piece by piece, and gives up at the first that is wrong.
type reader struct {
	rest []byte
}

// read reads a whole proof: nothing may stand behind it.
func read(sc scale, b bounds, raw []byte) proven {
	r := &reader{raw}
	var shown []api.Entry
	var down func(at place) part
	down = func(at place) part {
		touched, height := b.touches(at), at.height()
		switch r.take(markSize)[0] {
		case noneMark:
			return part{none{}, sc.empty[height]}
		case sumMark:
			mustBe(!touched)
			return r.sum(sc, height)
		case loneMark:
			mustBe(touched)
			l := r.lone(at)
			if b.holds(l.Key) {
				shown = append(shown, api.Entry(l))
			}
			return sc.climbed(l, height)
		case pairMark:
			mustBe(touched && height > 0)
			left, right := at.halves()
			l := down(left)
			p, least := joined(l, down(right)).(pair)
			mustBe(least)
			return part{p, sc.branch(p)}
		}
		panic(wrong{api.ErrProof})
	}
	whole := down(place{})
	mustBe(len(r.rest) == 0)
	return proven{whole, shown}
}

// sum reads what stands behind the mark of a sum.
func (r *reader) sum(sc scale, height int) part {
	d := api.Digest(r.take(sumSize))
	mustBe(digest.Cut(d, sc.width) == d)
	if d == sc.empty[height] {
		panic(wrong{api.ErrDefault})
	}
	return part{sum(d), d}
}

// lone reads what stands behind the mark of a lone text.
func (r *reader) lone(at place) lone {
	k := api.Key(r.take(keySize))
	mustBe(at.holds(k))
	length := number(r.take(lengthSize))
	mustBe(length <= api.MaxVal)
	return lone{Key: k, Val: bytes.Clone(r.take(length))}
}

// take takes the next n bytes off; the third index keeps them from reaching into what follows.
func (r *reader) take(n int) []byte {
	mustBe(len(r.rest) >= n)
	piece := r.rest[:n:n]
	r.rest = r.rest[n:]
	return piece
}

// mustBe gives up if the proof is not as it must be.
func mustBe(so bool) {
	if !so {
		panic(wrong{api.ErrProof})
	}
}

// number reads a length, the lowest byte first.
func number(raw []byte) int {
	return int(raw[0]) | int(raw[1])<<8
}
