package proof_test

import (
	"bytes"
	"fmt"
	"testing"

	"ledger/api"
	"ledger/proof"
	"ledger/tree"
)

// led tells the digest at each height to which a proof leads, from its answer up to the root's (P12.5).
func led(w int, k api.Key, p api.Proof) []api.Digest {
	sum := emptySum(w, 0)
	if p.Found {
		sum = leafSum(w, k, string(p.Val))
	}
	all, sums := []api.Digest{sum}, p.Sums
	for h := range 256 {
		beside := emptySum(w, h)
		if p.Bits[h/8]>>(h%8)&1 == 1 {
			beside, sums = sums[0], sums[1:]
		}
		if bitsOf(k)[255-h] == '0' {
			sum = pairSum(w, sum, beside)
		} else {
			sum = pairSum(w, beside, sum)
		}
		all = append(all, sum)
	}
	return all
}

// leads asks what P12.5 and P12.6 say of a key's proof in a tree of this map, by each call's own answers.
func (r *rig) leads(root int, k api.Key, m entries) {
	r.Helper()
	p, e := proof.Prove(r.s, root, k)
	if e != api.OK || len(p.Sums) != len(heights(p.Bits)) {
		r.Fatalf("P12.5: %s: Prove(%d, %x) = %s, %v", r.promise, root, k, told(p), e)
	}
	all := led(r.width(), k, p)
	if sum, e := tree.Sum(r.s, root); all[256] != sum || e != api.OK {
		r.Errorf("P12.5: %s: the proof for %x leads to %x, the root is %x, %v", r.promise, k, all[256], sum, e)
	}
	for h, sum := range all {
		if want := m.sum(r.width(), bitsOf(k)[:256-h]); sum != want {
			r.Errorf("P12.5: %s: the proof for %x leads to %x at height %d, want %x", r.promise, k, sum, h, want)
			break
		}
	}
	val, found, e := tree.Get(r.s, root, k)
	if p.Found != found || !bytes.Equal(p.Val, val) || e != api.OK {
		r.Errorf("P12.5: %s: the proof for %x says %t %q, Get %t %q, %v", r.promise, k, p.Found, p.Val, found, val, e)
	}
	r.short(k, m, p)
}

// short asks what P12.6 says of a proof.
func (r *rig) short(k api.Key, m entries, p api.Proof) {
	r.Helper()
	held := 0
	for h := range 256 {
		if len(m.under(neighbourRow(k, h))) > 0 {
			held++
		}
	}
	others := len(m)
	if _, has := m[k]; has {
		others--
	}
	raw, e := proof.Encode(p)
	if set := len(heights(p.Bits)); held > others || held > 256 || set > held || len(raw) > 35+128+32*held || e != api.OK {
		r.Errorf("P12.6: %s: %x: %d neighbours hold keys, of %d keys; %d bits, %d bytes, %v", r.promise, k, held, others, set, len(raw), e)
	}
}

// P12.5, P12.6: maps whose keys part at all kinds of heights, at many widths; keys that are there and that are not.
func TestProofsLeadToTheRoot(t *testing.T) {
	base := keyOf("0110100110010110")
	for i, m := range []entries{
		{},
		{keyK: ""},
		{keyZ: "z"},
		{keyK: "x", keyB: "y"},
		{keyK: "x", keyC: "y"},
		{base: "a", flipped(base, 255): "b", flipped(base, 254): ""},
		{base: string(text(1, 128)), flipped(base, 0): "b", flipped(base, 1): "c", flipped(base, 7): "d", flipped(base, 8): "e", flipped(base, 30): "f", keyZ: "z"},
	} {
		for _, w := range []int{1, 2, 3, 4, 16, 31, 32} {
			r := begun(t, fmt.Sprintf("map %d, width %d", i, w), 1200, w)
			root := r.grown(m)
			asked := append(m.rising(), keyK, keyB, keyC, keyZ, flipped(base, 2), flipped(base, 31), flipped(base, 253))
			r.quiet(func() {
				for _, k := range asked {
					r.leads(root, k, m)
				}
			})
		}
	}
}

// P12.6: the bound is met: all neighbours hold one key each, and the value is the longest.
func TestLongestProof(t *testing.T) {
	base := keyOf("1010011001")
	m := entries{base: string(text(1, 128))}
	for bit := 0; bit < 256; bit += 5 {
		m[flipped(base, bit)] = fmt.Sprint(bit)
	}
	r := begun(t, "P12.6", 4096, 32)
	root := r.grown(m)
	p, e := proof.Prove(r.s, root, base)
	raw, e2 := proof.Encode(p)
	if others := len(m) - 1; e != api.OK || e2 != api.OK || len(p.Sums) != others || len(raw) != 35+128+32*others {
		t.Errorf("P12.6: %d digests, %d bytes, %v, %v", len(p.Sums), len(raw), e, e2)
	}
	r.leads(root, base, m)
	// Many keys on one side are one neighbour.
	r = begun(t, "P12.6", 4096, 32)
	m = entries{keyB: "one"}
	for n := range 200 {
		m[keyOf(fmt.Sprintf("0%08b", n))] = "many"
	}
	root = r.grown(m)
	r.proves(root, keyB, there("one", []int{255}, m.sum(32, "0")))
	r.leads(root, keyB, m)
	r.leads(root, keyZ, m)
	r.leads(root, keyK, m)
}
