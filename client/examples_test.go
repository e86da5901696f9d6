package client_test

import (
	"bytes"
	"slices"
	"testing"

	"ledger/api"
	"ledger/client"
	"ledger/digest"
	"ledger/node"
)

// The proofs of the chapter's examples, byte for byte.
func emptyRaw() []byte { return make([]byte, 33) }

func loneRaw() []byte { return append([]byte{1, 1, 0, 'x'}, make([]byte, 32)...) }

func besideRaw(sum api.Digest) []byte {
	return slices.Concat([]byte{0}, []byte{1}, make([]byte, 31), sum[:])
}

var (
	leafOfK = node.Leaf(4, keyK, []byte("x"))
	rootOfK = node.Climb(4, keyK, 0, leafOfK, 256)
	rootOf0 = node.Empty(4, 256)
)

// verifies asks for an answer.
func verifies(t *testing.T, promise string, w int, root api.Digest, k api.Key, raw []byte, want api.Answer, why api.Errno) {
	t.Helper()
	if got, e := client.Verify(w, root, k, raw); !sameAnswer(got, want) || e != why || !want.Found && got.Val != nil {
		t.Errorf("%s: Verify(%d, %x, %x, %x) = %v, %v, want %v, %v", promise, w, root, k, raw, got, e, want, why)
	}
}

// Example 1: the empty map.
func TestExampleEmpty(t *testing.T) {
	for _, k := range []api.Key{keyK, keyC, keyB, keyZ, keyM} {
		verifies(t, "example 1", 4, rootOf0, k, emptyRaw(), api.Answer{}, api.OK)
	}
}

// Example 2: wrong widths, and no bytes.
func TestExampleWidths(t *testing.T) {
	for _, w := range []int{0, 33} {
		verifies(t, "example 2", w, rootOf0, keyK, emptyRaw(), api.Answer{}, api.ErrArg)
		verifies(t, "example 2", w, rootOf0, keyK, nil, api.Answer{}, api.ErrArg)
		verifies(t, "example 2", w, api.Digest{}, keyZ, []byte{9}, api.Answer{}, api.ErrArg)
	}
	verifies(t, "example 2", 4, rootOf0, keyK, nil, api.Answer{}, api.ErrProof)
}

// Example 3: the map with K alone.
func TestExampleLone(t *testing.T) {
	verifies(t, "example 3", 4, rootOfK, keyK, loneRaw(), api.Answer{Found: true, Val: []byte("x")}, api.OK)
	verifies(t, "example 3", 4, rootOfK, keyC, loneRaw(), api.Answer{}, api.ErrRoot)
}

// Example 4: the proof for C in that map, and how it may be spoilt.
func TestExampleBeside(t *testing.T) {
	verifies(t, "example 4", 4, rootOfK, keyC, besideRaw(leafOfK), api.Answer{}, api.OK)
	if !bytes.Equal(leafOfK[4:], make([]byte, 28)) {
		t.Fatal("example 4: 28 of the digest's bytes are zero")
	}
	for place := 4; place < 32; place++ {
		for _, b := range []byte{1, 128, 255} {
			sum := leafOfK
			sum[place] = b
			verifies(t, "example 4", 4, rootOfK, keyC, besideRaw(sum), api.Answer{}, api.ErrProof)
		}
	}
	verifies(t, "example 4", 4, rootOfK, keyC, besideRaw(node.Empty(4, 0)), api.Answer{}, api.ErrDefault)
}

// Example 5: there and back.
func TestExampleAdvance(t *testing.T) {
	if root, e := client.Advance(4, rootOf0, emptyRaw(), put(keyK, "x")); root != rootOfK || e != api.OK {
		t.Errorf("example 5: %x, %v, want %x", root, e, rootOfK)
	}
	if root, e := client.Advance(4, rootOfK, loneRaw(), del(keyK)); root != rootOf0 || e != api.OK {
		t.Errorf("example 5: %x, %v, want %x", root, e, rootOf0)
	}
}

// Example 6: C's proof follows.
func TestExampleRenew(t *testing.T) {
	if raw, e := client.Renew(4, rootOf0, keyC, emptyRaw(), emptyRaw(), put(keyK, "x")); !bytes.Equal(raw, besideRaw(leafOfK)) || e != api.OK {
		t.Errorf("example 6: %x, %v", raw, e)
	}
	if raw, e := client.Renew(4, rootOfK, keyC, besideRaw(leafOfK), loneRaw(), del(keyK)); !bytes.Equal(raw, emptyRaw()) || e != api.OK {
		t.Errorf("example 6: %x, %v", raw, e)
	}
}

// Example 7: two changes at once, none, and one without its proof.
func TestExampleAdvanceAll(t *testing.T) {
	both := node.Branch(4, leafOfK, node.Leaf(4, keyC, []byte("y")))
	want := node.Climb(4, keyK, 1, both, 256)
	for _, cs := range [][]api.Change{{put(keyK, "x"), put(keyC, "y")}, {put(keyC, "y"), put(keyK, "x")}} {
		if root, e := client.AdvanceAll(4, rootOf0, cs, [][]byte{emptyRaw(), emptyRaw()}); root != want || e != api.OK {
			t.Errorf("example 7: %x, %v, want %x", root, e, want)
		}
	}
	if root, e := client.AdvanceAll(4, rootOfK, nil, nil); root != rootOfK || e != api.OK {
		t.Errorf("example 7: %x, %v, want %x", root, e, rootOfK)
	}
	if root, e := client.AdvanceAll(4, rootOfK, []api.Change{put(keyK, "x")}, nil); root != (api.Digest{}) || e != api.ErrArg {
		t.Errorf("example 7: %x, %v, want ErrArg", root, e)
	}
}

// Example 8: one proof twice; and at the width 1 unlike ones, found by trying.
func TestExampleExtract(t *testing.T) {
	if one, two, is := client.Extract(4, rootOfK, keyK, loneRaw(), loneRaw()); one != nil || two != nil || is {
		t.Errorf("example 8: %x, %x, %t", one, two, is)
	}
	root := node.Climb(1, keyK, 0, node.Leaf(1, keyK, []byte("x")), 256)
	found := 0
	for n := 0; n < 300 && found < 3; n++ {
		raw := rawOf(there(string(rune('A'+n)), nil))
		if _, e := client.Verify(1, root, keyK, raw); e != api.OK || bytes.Equal(raw, loneRaw()) {
			continue
		}
		found++
		one, two, is := client.Extract(1, root, keyK, loneRaw(), raw)
		if !is || bytes.Equal(one, two) || digest.Cut(digest.Sum(one), 1) != digest.Cut(digest.Sum(two), 1) {
			t.Errorf("example 8: %x, %x, %t", one, two, is)
		}
	}
	if found == 0 {
		t.Errorf("example 8: no two proofs that hold were found")
	}
}
