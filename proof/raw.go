package proof

import (
	"bytes"
	"math/bits"

	"ledger/api"
)

// The first byte of a proof says whether the key is there.
const (
	markMissing = iota
	markFound
)

// How many bytes the pieces of a proof have.
const (
	markSize   = 1
	lengthSize = 2
	bitsSize   = api.Height / byteBits
	sumSize    = len(api.Digest{})
)

// wellFormed tells whether a proof may be laid out.
func wellFormed(p api.Proof) bool {
	if !p.Found && len(p.Val) > 0 || len(p.Val) > api.MaxVal {
		return false
	}
	return len(p.Sums) == countOf(p.Bits)
}

// countOf tells how many heights have their bit set.
func countOf(row [bitsSize]byte) int {
	n := 0
	for _, b := range row {
		n += bits.OnesCount8(b)
	}
	return n
}

// appendAnswer lays what a proof says of its key behind raw.
func appendAnswer(raw []byte, found bool, val []byte) []byte {
	if !found {
		return append(raw, markMissing)
	}
	raw = append(raw, markFound, byte(len(val)), byte(len(val)>>8))
	return append(raw, val...)
}

// readAnswer reads what the beginning of raw says of the key, and tells what stands behind it.
func readAnswer(raw []byte) (answer api.Answer, rest []byte, fits bool) {
	mark, rest, fits := cut(raw, markSize)
	if !fits || mark[0] > markFound {
		return api.Answer{}, nil, false
	}
	if mark[0] == markMissing {
		return api.Answer{}, rest, true
	}
	length, rest, fits := cut(rest, lengthSize)
	if !fits || number(length) > api.MaxVal {
		return api.Answer{}, nil, false
	}
	val, rest, fits := cut(rest, number(length))
	if !fits {
		return api.Answer{}, nil, false
	}
	return api.Answer{Found: true, Val: bytes.Clone(val)}, rest, true
}

// readNeighbours reads the bits and as many digests as are set there: nothing may stand behind them.
func readNeighbours(raw []byte) (row [bitsSize]byte, sums []api.Digest, fits bool) {
	piece, rest, fits := cut(raw, bitsSize)
	if !fits {
		return row, nil, false
	}
	copy(row[:], piece)
	for range countOf(row) {
		piece, rest, fits = cut(rest, sumSize)
		if !fits {
			return row, nil, false
		}
		sums = append(sums, api.Digest(piece))
	}
	return row, sums, len(rest) == 0
}

// cut takes the first n bytes of raw off, if there are as many; the third index keeps them from reaching into what follows.
func cut(raw []byte, n int) (piece, rest []byte, fits bool) {
	if len(raw) < n {
		return nil, nil, false
	}
	return raw[:n:n], raw[n:], true
}

// number reads a length, the lowest byte first.
func number(raw []byte) int {
	return int(raw[0]) | int(raw[1])<<8
}
