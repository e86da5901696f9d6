package proof_test

import (
	"bytes"
	"slices"
	"testing"

	"ledger/api"
	"ledger/proof"
)

// spoil writes into a list and behind it, as far as its memory reaches.
func spoil(list []byte) {
	for i := range list[:cap(list)] {
		list[:cap(list)][i] ^= 255
	}
	_ = append(list, "spare"...)
}

// spoilSums does the same to digests.
func spoilSums(list []api.Digest) {
	for i := range list[:cap(list)] {
		for j := range list[:cap(list)][i] {
			list[:cap(list)][i][j] ^= 255
		}
	}
	_ = append(list, api.Digest{1})
}

// R5: whoever writes into a proof, or behind its lists, touches nothing else: not the store, not the other list, not the next proof.
func TestProofIsNewMemory(t *testing.T) {
	whole, roots, all := made(t, "R5", 4)
	for _, room := range []int{0, 4096} {
		r := whole.reopened(room)
		staged := r.update(roots[2], put(keyC, string(text(1, 128))))
		trees := append(slices.Clone(roots), staged)
		maps := append(slices.Clone(all), all[2].behind([]api.Change{put(keyC, string(text(1, 128)))}))
		r.quiet(func() {
			for range 2 {
				for i, root := range trees {
					for _, k := range askedOf(all) {
						p, e := proof.Prove(r.s, root, k)
						want := maps[i].proof(4, k)
						if !same(p, want) || e != api.OK {
							t.Fatalf("R5: Prove(%d, %x) = %s, %v, want %s", root, k, told(p), e, told(want))
						}
						spoil(p.Val)
						if !slices.Equal(p.Sums, want.Sums) {
							t.Errorf("R5: two lists of one proof share memory")
						}
						spoilSums(p.Sums)
						r.proves(root, k, want)
					}
				}
			}
		})
	}
}

// R5: Encode keeps nothing of the proof and changes nothing in it, the spare room included.
func TestEncodeLeavesTheProof(t *testing.T) {
	val := append(make([]byte, 0, 50), "value, spare"...)[:5]
	sums := append(make([]api.Digest, 0, 9), sumOf(1), sumOf(2), sumOf(3))[:2]
	p := api.Proof{Found: true, Val: val, Bits: bitsAt(3, 9), Sums: sums}
	raw, e := proof.Encode(p)
	want := rawOf(there("value", []int{3, 9}, sumOf(1), sumOf(2)))
	if !bytes.Equal(raw, want) || e != api.OK {
		t.Fatal(raw, e)
	}
	if string(val[:12]) != "value, spare" || sums[:3][2] != sumOf(3) || sums[:4][3] != (api.Digest{}) || !bytes.Equal(val[12:50], make([]byte, 38)) {
		t.Errorf("R5: Encode has written into the proof: %q", val[:cap(val)])
	}
	spoil(raw)
	if !same(p, there("value", []int{3, 9}, sumOf(1), sumOf(2))) {
		t.Errorf("R5: the bytes share memory with the proof: %s", told(p))
	}
	raw, _ = proof.Encode(p)
	spoil(val)
	spoilSums(sums)
	if !bytes.Equal(raw, want) {
		t.Errorf("R5: the proof shares memory with the bytes")
	}
}

// P12.10, R5: Val and Sums are new memory, and raw is left as it is, the spare room included.
func TestDecodeLeavesTheBytes(t *testing.T) {
	for _, want := range []api.Proof{there("value", []int{3, 9}, sumOf(1), sumOf(2)), there("", nil), there("v", nil), notThere([]int{255}, sumOf(1)), longest()} {
		plain := rawOf(want)
		whole := append(slices.Clone(plain), text(7, 64)...)
		was := slices.Clone(whole)
		raw := whole[:len(plain)]
		p, e := proof.Decode(raw)
		if !same(p, want) || e != api.OK {
			t.Fatal(told(p), e)
		}
		spoil(p.Val)
		if !slices.Equal(p.Sums, want.Sums) {
			t.Errorf("R5: two lists of one proof share memory")
		}
		spoilSums(p.Sums)
		if !bytes.Equal(whole, was) {
			t.Errorf("R5: the proof shares memory with its bytes")
		}
		p, _ = proof.Decode(raw)
		spoil(whole)
		if !same(p, want) {
			t.Errorf("R5: the bytes share memory with their proof: %s", told(p))
		}
	}
}

// R4: refused bytes are left, too, and a refused proof.
func TestRefusedAreLeft(t *testing.T) {
	raw := append(rawOf(there("value", []int{3}, sumOf(1))), 7)
	was := slices.Clone(raw)
	decodesNot(t, "R4", raw)
	if !bytes.Equal(raw, was) {
		t.Errorf("R4: refused bytes were changed")
	}
	p := api.Proof{Val: []byte("no"), Sums: []api.Digest{sumOf(1)}}
	encodesNot(t, "R4", p)
	if string(p.Val) != "no" || p.Sums[0] != sumOf(1) {
		t.Errorf("R4: a refused proof was changed")
	}
}

// R5: the key and the root's tree are the caller's: two proofs of one tree do not hang on which came first.
func TestProofsDoNotHangOnOneAnother(t *testing.T) {
	r, roots, all := made(t, "R5", 32)
	keys := askedOf(all)
	slices.Reverse(keys)
	for range 2 {
		for _, k := range keys {
			for i, root := range roots {
				r.proves(root, k, all[i].proof(32, k))
			}
		}
		slices.Reverse(keys)
	}
}
