package proof_test

import (
	"bytes"
	"fmt"
	"math/rand/v2"
	"slices"
	"testing"

	"ledger/api"
	"ledger/proof"
)

// P12.10: bytes that are cut at each place are no proof, nor are they with more behind them.
func TestBytesMissingAndTooMany(t *testing.T) {
	for i, p := range wellFormedOnes()[:24] {
		raw := rawOf(p)
		for n := range raw {
			decodesNot(t, fmt.Sprintf("P12.10: number %d, cut to %d bytes", i, n), raw[:n:n])
		}
		for _, more := range []int{1, 2, 31, 32, 33, 64, 1000} {
			decodesNot(t, fmt.Sprintf("P12.10: number %d and %d bytes more", i, more), slices.Concat(raw, make([]byte, more)))
			decodesNot(t, fmt.Sprintf("P12.10: number %d and %d bytes more", i, more), slices.Concat(raw, text(i, more)))
		}
	}
}

// P12.10: what lies in raw's spare room is no part of it.
func TestSpareRoomIsNotRead(t *testing.T) {
	p := there("val", []int{3, 77}, sumOf(1), sumOf(2))
	raw := rawOf(p)
	for n := range raw {
		decodesNot(t, "P12.10: the rest lies behind", raw[:n])
	}
	long := append(slices.Clone(raw), text(1, 100)...)
	decodes(t, "P12.10: more lies behind", long[:len(raw)], p)
}

// P12.10: the first byte is 0 or 1.
func TestFirstByte(t *testing.T) {
	for first := range 256 {
		for _, rest := range [][]byte{zeros(32), zeros(34), zeros(0), zeros(160), append([]byte{1, 0, 7}, zeros(32)...)} {
			raw := append([]byte{byte(first)}, rest...)
			right := first == 0 && len(rest) == 32 || first == 1 && (len(rest) == 34 || len(rest) == 35)
			if p, e := proof.Decode(raw); (e == api.OK) != right || e != api.OK && e != api.ErrProof {
				t.Errorf("P12.10: the first byte is %d, %d behind it: %s, %v", first, len(rest), told(p), e)
			}
			if !right {
				decodesNot(t, fmt.Sprintf("P12.10: the first byte is %d", first), raw)
			}
		}
	}
}

// P12.10: every length, the ones above MaxVal with as many bytes as they say, and with fewer and more.
func TestLengths(t *testing.T) {
	for _, n := range []int{0, 1, 2, 3, 31, 32, 33, 127, 128, 129, 130, 255, 256, 257, 383, 384, 512, 32767, 32768, 65280, 65535} {
		head := []byte{1, byte(n), byte(n >> 8)}
		for _, vals := range []int{0, 1, n % 256, n - 1, n, n + 1} {
			if vals < 0 {
				continue
			}
			raw := slices.Concat(head, text(n, vals), zeros(32))
			if n <= 128 && vals == n {
				decodes(t, "P12.10", raw, there(string(text(n, n)), nil))
			} else if vals != n {
				// The bytes behind a short value are taken for it: the bits are cut short then, or they name digests that are not there.
				decodesNot(t, fmt.Sprintf("P12.10: length %d, %d bytes", n, vals), raw)
			} else {
				decodesNot(t, fmt.Sprintf("P12.10: length %d", n), raw)
			}
		}
	}
}

// P12.10: a digest too few, half a one, and too many, for each number of bits.
func TestDigestsMissingAndTooMany(t *testing.T) {
	for _, n := range []int{0, 1, 2, 7, 8, 9, 100, 255, 256} {
		p := notThere(nil)
		for h := range n {
			p.Bits[(h*37%256)/8] |= 1 << (h * 37 % 256 % 8)
			p.Sums = append(p.Sums, sumOf(h))
		}
		raw := rawOf(p)
		if len(raw) != 33+32*n {
			t.Fatal(len(raw))
		}
		decodes(t, "P12.10", raw, p)
		for _, by := range []int{-64, -33, -32, -31, -16, -1} {
			if len(raw)+by > 0 {
				decodesNot(t, fmt.Sprintf("P12.10: %d digests and %d bytes", n, by), slices.Clone(raw[:len(raw)+by]))
			}
		}
		for _, by := range []int{1, 16, 31, 32, 33, 64} {
			decodesNot(t, fmt.Sprintf("P12.10: %d digests and %d bytes", n, by), slices.Concat(raw, text(1, by)))
		}
	}
}

// P12.10: whatever bytes come, Decode answers a proof whose bytes they are, or nothing.
func TestDrawnBytes(t *testing.T) {
	rnd := rand.New(rand.NewPCG(2, 12))
	right, wrong := 0, 0
	for range 4000 {
		raw := make([]byte, rnd.IntN(200))
		for i := range raw {
			if rnd.IntN(6) == 0 {
				raw[i] = byte(rnd.Uint32())
			}
		}
		if rnd.IntN(2) == 0 {
			// As if it were one: few bits, and nearly as many digests.
			raw = append([]byte{byte(rnd.IntN(3))}, zeros(32)...)
			for range rnd.IntN(3) {
				raw[1+rnd.IntN(32)] |= 1 << rnd.IntN(8)
			}
			set := len(heights([32]byte(raw[1:33])))
			raw = append(raw, text(rnd.IntN(99), 32*max(set+rnd.IntN(7)/6-rnd.IntN(7)/6, 0)+rnd.IntN(10)/9)...)
		}
		p, e := proof.Decode(raw)
		if e == api.ErrProof {
			wrong++
			decodesNot(t, "P12.10: drawn", raw)
			continue
		}
		right++
		if again, e2 := proof.Encode(p); e != api.OK || e2 != api.OK || !bytes.Equal(again, raw) || !bytes.Equal(rawOf(p), raw) {
			t.Errorf("P12.10: Encode of Decode(%v) is %v, %v, %v", raw, again, e, e2)
		}
		if len(p.Sums) != len(heights(p.Bits)) || len(p.Val) > 128 || !p.Found && len(p.Val) > 0 {
			t.Errorf("P12.7: Decode(%v) is not well formed: %s", raw, told(p))
		}
	}
	if right < 200 || wrong < 200 {
		t.Errorf("P12.10: %d were right, %d wrong: the bytes say too little", right, wrong)
	}
}
