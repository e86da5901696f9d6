package witness

import (
	"bytes"

	"ledger/api"
)

// The first byte of a place's text says what stands there.
const (
	markMissing = iota
	markFound
	markFork
)

// How many bytes the pieces of a text have.
const (
	byteBits   = 8
	markSize   = 1
	lengthSize = 2
	bitsSize   = api.Height / byteBits
	sumSize    = len(api.Digest{})
)

// given is a digest that is written out, as the neighbour of this height, and the number of the key with which it counts.
type given struct {
	number, height int
	sum            api.Digest
}

// reader takes a witness's bytes off from the front on. Once they are wrong all that is taken is zeros: so what is read always ends.
type reader struct {
	rest  []byte
	wrong bool
	sums  []given // as they stand one behind the other
}

// read takes what a witness says, if it is in form for the claim's keys.
func (c *claim) read(raw []byte) api.Errno {
	r := &reader{rest: raw}
	if c.tree != nil {
		c.readPlace(r, c.tree)
	}
	if r.wrong || len(r.rest) > 0 {
		return api.ErrProof
	}
	for _, x := range r.sums {
		if !c.fits(x.sum) {
			return api.ErrProof
		}
		// Each text that holds is to be the only one for what it says: what is left out need not be written.
		if x.sum == c.empty[x.height] {
			return api.ErrDefault
		}
		c.says[x.number].beside[x.height] = x.sum
	}
	return api.OK
}

// readPlace reads the text of a place.
func (c *claim) readPlace(r *reader, p *place) {
	if p.left == nil {
		c.says[p.low].answer = r.answer()
		r.neighbours(p)
		return
	}
	if r.take(markSize)[0] != markFork {
		r.wrong = true
	}
	r.neighbours(p)
	c.readPlace(r, p.left)
	c.readPlace(r, p.right)
}

// take takes so many bytes off.
func (r *reader) take(n int) []byte {
	if r.wrong || len(r.rest) < n {
		r.wrong = true
		return make([]byte, n)
	}
	piece := r.rest[:n:n]
	r.rest = r.rest[n:]
	return piece
}

// answer takes off what is said of one key.
func (r *reader) answer() api.Answer {
	mark := r.take(markSize)[0]
	if mark == markMissing {
		return api.Answer{}
	}
	length := lengthOf(r.take(lengthSize))
	if mark != markFound || length > api.MaxVal {
		r.wrong = true
		return api.Answer{}
	}
	return api.Answer{Found: true, Val: bytes.Clone(r.take(length))}
}

// neighbours takes off a place's bitmap, and the digests that stand behind it.
func (r *reader) neighbours(p *place) {
	row := r.take(bitsSize)
	for h := range api.Height {
		if row[h/byteBits]>>(h%byteBits)&1 == 0 {
			continue
		}
		if h < p.floor || h >= p.top {
			r.wrong = true
		}
		r.sums = append(r.sums, given{p.low, h, api.Digest(r.take(sumSize))})
	}
}

// lengthOf reads a length, the lowest byte first.
func lengthOf(raw []byte) int {
	return int(raw[0]) | int(raw[1])<<byteBits
}
