package desk

import (
	"bytes"

	"ledger/api"
)

// How many bytes the parts of frames and replies have.
const (
	kindSize    = 1
	keySize     = len(api.Key{})
	digestSize  = len(api.Digest{})
	versionSize = 8
	countSize   = 4
	lengthSize  = 2
	errSize     = 2
	widthSize   = 1
	flagSize    = 1
	markSize    = 1
)

// numberFits tells whether a number can be laid down in so many bytes (fewer than eight) without a sign.
func numberFits(n, size int) bool { return n >= 0 && n>>(8*size) == 0 }

// appendNumber lays a number down, its lowest byte first; in eight bytes one below 0 becomes its two's complement.
func appendNumber(raw []byte, n, size int) []byte {
	for i := range size {
		raw = append(raw, byte(n>>(8*i)))
	}
	return raw
}

// reader takes bytes off from the front on. That they are wrong stays, whatever is taken off behind it: so it need be asked but once, at the end.
type reader struct {
	rest  []byte
	wrong bool
}

// done tells whether all was right up to here and nothing is left.
func (p *reader) done() bool { return !p.wrong && len(p.rest) == 0 }

// take takes the next n bytes off, zeros where there are too few; the third index keeps them from reaching into what follows.
func (p *reader) take(n int) []byte {
	if n > len(p.rest) {
		p.wrong = true
		return make([]byte, n)
	}
	piece := p.rest[:n:n]
	p.rest = p.rest[n:]
	return piece
}

// copied takes the next n bytes off as memory of their own.
func (p *reader) copied(n int) []byte { return bytes.Clone(p.take(n)) }

// number takes a number off; in eight bytes it is two's complement.
func (p *reader) number(size int) int {
	n := 0
	for i, b := range p.take(size) {
		n |= int(b) << (8 * i)
	}
	return n
}

// numberUpTo takes a number off that may not be above a bound.
func (p *reader) numberUpTo(most, size int) int {
	n := p.number(size)
	if n > most {
		p.wrong = true
		return 0
	}
	return n
}
