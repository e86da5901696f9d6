package proof_test

import (
	"fmt"
	"strings"
	"testing"

	"ledger/api"
)

// P12.2: of the empty tree no neighbour is named, whatever the key and the width.
func TestEmptyTree(t *testing.T) {
	for w := 1; w <= 32; w++ {
		r := begun(t, fmt.Sprintf("P12.2: width %d", w), 5, w)
		for _, k := range []api.Key{keyK, keyB, keyC, keyZ, keyOf("0110")} {
			r.proves(0, k, api.Proof{})
		}
	}
}

// P12.2: a leaf of another key at the path's end is the neighbour at the height where the two part, at every height.
func TestOtherKeyAtEveryHeight(t *testing.T) {
	base := keyOf("0110100110010110")
	for _, w := range []int{4, 32} {
		r := begun(t, fmt.Sprintf("P12.2: width %d", w), 40, w)
		root := r.update(0, put(base, "val"))
		r.proves(root, base, there("val", nil))
		for bit := range 256 {
			h := 255 - bit
			sum := loneSum(w, base, "val", h)
			r.proves(root, flipped(base, bit), notThere([]int{h}, sum))
			// Which bits lie behind the one that parts the two is not seen.
			if bit < 255 {
				r.proves(root, flipped(flipped(base, bit), 255), notThere([]int{h}, sum))
				r.proves(root, flipped(flipped(base, bit), bit+1), notThere([]int{h}, sum))
			}
		}
	}
}

// P12.2: a neighbour that a branch states, at every height: the two keys prove each other, and others find both beside them.
func TestBranchAtEveryHeight(t *testing.T) {
	base := keyOf("0110100110010110")
	for _, bit := range []int{0, 1, 2, 6, 7, 8, 9, 100, 127, 128, 247, 248, 254, 255} {
		r := begun(t, fmt.Sprintf("P12.2: bit %d", bit), 600, 32)
		other, h := flipped(base, bit), 255-bit
		m := entries{base: "a", other: "bc"}
		root := r.grown(m)
		mine, its := loneSum(32, base, "a", h), loneSum(32, other, "bc", h)
		r.proves(root, base, there("a", []int{h}, its))
		r.proves(root, other, there("bc", []int{h}, mine))
		// Below the branch: the path ends at base's leaf; the branch's height is not the one that parts the two.
		for low := bit + 1; low < 256; low += 1 + low/3 {
			r.proves(root, flipped(base, low), notThere([]int{255 - low, h}, loneSum(32, base, "a", 255-low), its))
			r.proves(root, flipped(other, low), notThere([]int{255 - low, h}, loneSum(32, other, "bc", 255-low), mine))
		}
		// Above it: the path ends at no page; the branch on the way states both together.
		for high := range bit {
			both := m.sum(32, bitsOf(base)[:high+1])
			r.proves(root, flipped(base, high), notThere([]int{255 - high}, both))
		}
	}
}

// P12.2: a path that ends at no page names what its branches state, and nothing below.
func TestPathEndsAtNothing(t *testing.T) {
	r := begun(t, "P12.2: no page at the end", 60, 4)
	m := entries{keyOf("0100"): "a", keyOf("0101"): "b", keyOf("1"): "c"}
	root := r.grown(m)
	for _, row := range []string{"00", "0001", "0011", "011", "0111"} {
		k := keyOf(row)
		x := r.asRead(root, k)
		if x.leaf.Kind != 0 {
			t.Fatalf("%s: the path of %s ends at a leaf", r.promise, row)
		}
		r.proves(root, k, m.proof(4, k))
	}
	r.proves(root, keyOf("00"), notThere([]int{254, 255}, m.sum(4, "01"), m.sum(4, "1")))
	r.proves(root, keyOf("011"), notThere([]int{253, 255}, m.sum(4, "010"), m.sum(4, "1")))
}

// P12.2: the values of 0 bytes and of MaxVal bytes; the neighbours do not hang on the key's own value.
func TestValues(t *testing.T) {
	r := begun(t, "P12.2: values", 60, 32)
	for _, n := range []int{0, 1, 2, 31, 32, 127, 128} {
		val := string(text(n, n))
		root := r.update(0, put(keyK, val), put(keyB, "y"))
		r.proves(root, keyK, there(val, []int{255}, loneSum(32, keyB, "y", 255)))
		r.proves(root, keyB, there("y", []int{255}, loneSum(32, keyK, val, 255)))
		r.proves(root, keyC, notThere([]int{0, 255}, leafSum(32, keyK, val), loneSum(32, keyB, "y", 255)))
		r.rewind(2)
	}
}

// P12.2: a proof with all 256 heights.
func TestAllHeights(t *testing.T) {
	base := keyOf("1010011001")
	m := entries{base: string(text(1, 128))}
	for bit := range 256 {
		m[flipped(base, bit)] = fmt.Sprint(bit)
	}
	r := begun(t, "P12.2: all heights", 4096, 32)
	root := r.grown(m)
	want := api.Proof{Found: true, Val: text(1, 128)}
	for h := range 256 {
		want.Bits[h/8] |= 1 << (h % 8)
		want.Sums = append(want.Sums, loneSum(32, flipped(base, 255-h), fmt.Sprint(255-h), h))
	}
	r.proves(root, base, want)
	if raw := rawOf(want); len(raw) != 8355 {
		t.Fatal(len(raw))
	}
	encodes(t, "P12.8: all heights", want, rawOf(want))
	gone := r.update(root, del(base))
	want.Found, want.Val = false, nil
	r.proves(gone, base, want)
	encodes(t, "P12.8: all heights", want, rawOf(want))
}

// The bit of the height h is 1 << (h mod 8) in Bits[h / 8].
func TestBitOfHeight(t *testing.T) {
	r := begun(t, "the bit of a height", 10, 32)
	root := r.update(0, put(keyK, "x"))
	for h := range 256 {
		var want [32]byte
		want[h/8] = [8]byte{1, 2, 4, 8, 16, 32, 64, 128}[h%8]
		p, x := r.readProof(root, keyOf(strings.Repeat("0", 255-h)+"1"))
		if x.broken || p.Bits != want {
			t.Fatalf("the plain reading: %v", p.Bits)
		}
		r.proves(root, keyOf(strings.Repeat("0", 255-h)+"1"), api.Proof{Bits: want, Sums: []api.Digest{loneSum(32, keyK, "x", h)}})
	}
}
