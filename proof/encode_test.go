package proof_test

import (
	"fmt"
	"math/rand/v2"
	"testing"

	"ledger/api"
	"ledger/proof"
)

// wellFormedOnes tells proofs of all kinds that have bytes.
func wellFormedOnes() []api.Proof {
	all := []api.Proof{
		{},
		{Val: []byte{}, Sums: []api.Digest{}},
		{Found: true},
		{Found: true, Val: []byte{}},
		notThere([]int{0}, sumOf(1)),
		notThere([]int{255}, sumOf(2)),
		notThere([]int{9}, api.Digest{}),
		notThere([]int{7, 8}, sumOf(3), sumOf(3)),
		there("\x00", []int{0, 1, 2, 3, 4, 5, 6, 7}, sumOf(1), sumOf(2), sumOf(3), sumOf(4), sumOf(5), sumOf(6), sumOf(7), sumOf(8)),
		there("\x01\x02", []int{31, 128, 254}, sumOf(9), api.Digest{}, sumOf(8)),
		longest(),
	}
	for _, n := range []int{1, 2, 3, 31, 32, 33, 64, 126, 127, 128} {
		all = append(all, there(string(text(n, n)), []int{n}, sumOf(n)))
	}
	for h := range 256 {
		all = append(all, notThere([]int{h}, sumOf(h)))
	}
	return all
}

// P12.8, P12.9, P12.10: the bytes of proofs that are well formed, and back.
func TestBytes(t *testing.T) {
	for i, p := range wellFormedOnes() {
		encodes(t, fmt.Sprintf("P12.8: number %d", i), p, rawOf(p))
	}
}

// P12.8: the length has its lowest byte first, and the bits stand as they are.
func TestBytesByHand(t *testing.T) {
	val := make([]byte, 128)
	encodes(t, "P12.8", api.Proof{Found: true, Val: val}, zeros(128+32, 1, 128, 0))
	p := api.Proof{Found: true, Val: []byte{5, 6}, Bits: [32]byte{0: 1, 30: 64, 31: 128}, Sums: []api.Digest{{1}, {31: 2}, {3, 4}}}
	raw := []byte{1, 2, 0, 5, 6}
	raw = append(raw, zeros(29, 1)...)
	raw = append(raw, 64, 128)
	raw = append(raw, zeros(31, 1)...)
	raw = append(raw, zeros(31)...)
	raw = append(raw, 2)
	raw = append(raw, zeros(30, 3, 4)...)
	encodes(t, "P12.8", p, raw)
}

// P12.7, P12.9: what is not well formed has no bytes.
func TestNotWellFormed(t *testing.T) {
	for _, n := range []int{1, 2, 127, 128, 129, 1000} {
		encodesNot(t, "P12.7: a value where there is none", api.Proof{Val: make([]byte, n)})
		encodesNot(t, "P12.7: a value where there is none", api.Proof{Val: make([]byte, n), Bits: bitsAt(3), Sums: make([]api.Digest, 1)})
	}
	for _, n := range []int{129, 130, 255, 256, 257, 384, 65535, 65536, 65537, 65664} {
		encodesNot(t, "P12.7: too long a value", api.Proof{Found: true, Val: make([]byte, n)})
	}
	full := longest()
	for _, n := range []int{0, 1, 2, 8, 255, 256} {
		var bits [32]byte
		for h := range n {
			bits[(255-h)/8] |= 1 << ((255 - h) % 8)
		}
		for _, sums := range []int{0, 1, 2, n - 2, n - 1, n, n + 1, n + 2, 255, 256, 257, 512} {
			if sums < 0 {
				continue
			}
			for _, p := range []api.Proof{{Bits: bits, Sums: make([]api.Digest, sums)}, {Found: true, Val: full.Val, Bits: bits, Sums: make([]api.Digest, sums)}} {
				if sums == n {
					encodes(t, "P12.7", p, rawOf(p))
				} else {
					encodesNot(t, fmt.Sprintf("P12.7: %d digests for %d bits", sums, n), p)
				}
			}
		}
	}
}

// P12.9: Encode asks nothing of the digests: an empty subtree's, and bytes behind every width.
func TestDigestsAreNotAsked(t *testing.T) {
	for _, w := range []int{1, 4, 32} {
		p := notThere([]int{0, 77, 255}, emptySum(w, 0), emptySum(w, 77), emptySum(w, 255))
		encodes(t, "P12.7", p, rawOf(p))
	}
	p := notThere([]int{1, 2}, sumOf(1), api.Digest{31: 255})
	encodes(t, "P12.7", p, rawOf(p))
}

// P12.9, P12.10: drawn proofs, of all numbers of digests.
func TestDrawnProofs(t *testing.T) {
	rnd := rand.New(rand.NewPCG(1, 12))
	for range 500 {
		p := api.Proof{}
		if rnd.IntN(2) == 0 {
			p.Found, p.Val = true, text(rnd.IntN(99), rnd.IntN(129))
		}
		part := rnd.IntN(9) + 1
		for h := range 256 {
			if rnd.IntN(10) < part {
				p.Bits[h/8] |= 1 << (h % 8)
				p.Sums = append(p.Sums, sumOf(rnd.IntN(999)))
			}
		}
		encodes(t, "P12.8: drawn", p, rawOf(p))
		// No two texts are one proof: with a byte turned anywhere it is none, or another one.
		raw := rawOf(p)
		raw[rnd.IntN(len(raw))] ^= byte(1 + rnd.IntN(255))
		if q, e := proof.Decode(raw); e == api.OK && same(p, q) {
			t.Errorf("P12.10: two texts are one proof: %s", told(p))
		}
	}
}
