package proof_test

import (
	"bytes"
	"slices"
	"testing"

	"ledger/api"
	"ledger/proof"
)

// zeros tells some bytes with n zeros behind them.
func zeros(n int, first ...byte) []byte { return append(first, make([]byte, n)...) }

// encodes asks for a proof's bytes, and for the way back.
func encodes(t *testing.T, promise string, p api.Proof, want []byte) {
	t.Helper()
	raw, e := proof.Encode(p)
	if !bytes.Equal(raw, want) || e != api.OK {
		t.Errorf("%s: Encode(%s) = %v, %v, want %v", promise, told(p), raw, e, want)
	}
	decodes(t, promise, want, p)
}

// encodesNot asks that a proof has no bytes.
func encodesNot(t *testing.T, promise string, p api.Proof) {
	t.Helper()
	if raw, e := proof.Encode(p); raw != nil || e != api.ErrProof {
		t.Errorf("%s: Encode(%s) = %v, %v, want nil, ErrProof", promise, told(p), raw, e)
	}
}

// decodes asks for the proof that some bytes are.
func decodes(t *testing.T, promise string, raw []byte, want api.Proof) {
	t.Helper()
	if p, e := proof.Decode(raw); !same(p, want) || e != api.OK {
		t.Errorf("%s: Decode(%v) = %s, %v, want %s", promise, raw, told(p), e, told(want))
	}
}

// decodesNot asks that bytes are no proof.
func decodesNot(t *testing.T, promise string, raw []byte) {
	t.Helper()
	if p, e := proof.Decode(raw); !same(p, api.Proof{}) || p.Val != nil || p.Sums != nil || e != api.ErrProof {
		t.Errorf("%s: Decode(%v) = %s, %v, want zeros, ErrProof", promise, raw, told(p), e)
	}
}

// Example 1: the empty tree.
func TestExampleEmpty(t *testing.T) {
	r := begun(t, "example 1", 600, 4)
	r.proves(0, keyK, api.Proof{})
	p, _ := proof.Prove(r.s, 0, keyK)
	encodes(t, "example 1", p, make([]byte, 33))
}

// Example 2: the tree of K alone.
func TestExampleLone(t *testing.T) {
	r := begun(t, "example 2", 600, 4)
	root := r.update(0, put(keyK, "x"))
	r.proves(root, keyK, there("x", nil))
	p, _ := proof.Prove(r.s, root, keyK)
	encodes(t, "example 2", p, zeros(32, 1, 1, 0, 120))
}

// Example 3: of the same tree keys that are not there.
func TestExampleOthers(t *testing.T) {
	r := begun(t, "example 3", 600, 4)
	root := r.update(0, put(keyK, "x"))
	r.proves(root, keyC, notThere([]int{0}, leafSum(4, keyK, "x")))
	p, _ := proof.Prove(r.s, root, keyC)
	if p.Bits != [32]byte{1} {
		t.Errorf("example 3: Bits are %v", p.Bits)
	}
	r.proves(root, keyB, notThere([]int{255}, loneSum(4, keyK, "x", 255)))
	p, _ = proof.Prove(r.s, root, keyB)
	if p.Bits != [32]byte{31: 128} {
		t.Errorf("example 3: Bits are %v", p.Bits)
	}
}

// Example 4: the tree of K and B.
func TestExampleTwo(t *testing.T) {
	r := begun(t, "example 4", 600, 4)
	root := r.update(0, put(keyK, "x"), put(keyB, "y"))
	far := loneSum(4, keyB, "y", 255)
	r.proves(root, keyK, there("x", []int{255}, far))
	r.proves(root, keyC, notThere([]int{0, 255}, leafSum(4, keyK, "x"), far))
}

// Example 5: the tree of K and C, which have 256 branches above them.
func TestExampleDeep(t *testing.T) {
	r := begun(t, "example 5", 600, 4)
	root := r.update(0, put(keyK, "x"), put(keyC, "z"))
	if x := r.readPath(root, keyK); len(x.branches) != 256 {
		t.Fatalf("%d branches", len(x.branches))
	}
	r.proves(root, keyK, there("x", []int{0}, leafSum(4, keyC, "z")))
	r.proves(root, keyC, there("z", []int{0}, leafSum(4, keyK, "x")))
}

// Example 6: refusals.
func TestExampleRefusals(t *testing.T) {
	r := begun(t, "example 6", 600, 4)
	if p, e := proof.Prove(nil, 0, keyK); !same(p, api.Proof{}) || e != api.ErrArg {
		t.Errorf("example 6: of no store: %s, %v", told(p), e)
	}
	r.refuses(1, keyK, api.ErrPage)
	r.refuses(r.s.Next(), keyK, api.ErrPage)
	record := r.forge(api.KindRecord, []byte("r"))
	r.refuses(record, keyK, api.ErrCorrupt)
}

// Example 7: proofs that are not well formed.
func TestExampleNotWellFormed(t *testing.T) {
	encodesNot(t, "example 7", api.Proof{Val: []byte{0}})
	encodesNot(t, "example 7", api.Proof{Found: true, Val: make([]byte, 129)})
	encodesNot(t, "example 7", api.Proof{Bits: bitsAt(3)})
	encodesNot(t, "example 7", api.Proof{Bits: bitsAt(3), Sums: make([]api.Digest, 2)})
}

// Example 8: bytes that are no proof, and the empty value.
func TestExampleBytes(t *testing.T) {
	decodesNot(t, "example 8", nil)
	decodesNot(t, "example 8", zeros(32))
	decodesNot(t, "example 8", zeros(34))
	decodesNot(t, "example 8", zeros(32, 2))
	for n := range 400 {
		decodesNot(t, "example 8", zeros(n, 1, 129, 0))
	}
	decodes(t, "example 8", zeros(32, 1, 0, 0), api.Proof{Found: true})
}

// Example 9: one digest.
func TestExampleOneDigest(t *testing.T) {
	first := zeros(30, 0, 0, 2)
	for n := range 100 {
		raw := slices.Concat(first, text(1, n))
		if n == 32 {
			decodes(t, "example 9", raw, notThere([]int{9}, api.Digest(text(1, 32))))
		} else {
			decodesNot(t, "example 9", raw)
		}
	}
}

// Example 10: the longest proof.
func TestExampleLongest(t *testing.T) {
	p := longest()
	raw, e := proof.Encode(p)
	if len(raw) != 8355 || e != api.OK {
		t.Errorf("example 10: %d bytes, %v", len(raw), e)
	}
	decodes(t, "example 10", raw, p)
}

// longest tells a proof with all that one may have.
func longest() api.Proof {
	p := api.Proof{Found: true, Val: text(3, 128)}
	for h := range 256 {
		p.Bits[h/8] |= 1 << (h % 8)
		p.Sums = append(p.Sums, sumOf(h))
	}
	return p
}
