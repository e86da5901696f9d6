package node_test

import (
	"fmt"
	"testing"

	"ledger/api"
	"ledger/node"
)

func TestLeaf(t *testing.T) {
	for _, w := range widths {
		for _, k := range []api.Key{{}, single(0), single(255), api.Key(sumOf(3))} {
			for _, n := range []int{0, 1, 22, 23, 31, 86, 87, 128, 129, 300} {
				want := cut(w.counts, []byte{0}, k[:], text(n))
				wantSum(t, fmt.Sprintf("P9.7: Leaf(%d, ..) of %d bytes", w.asked, n), node.Leaf(w.asked, k, text(n)), want)
			}
		}
	}
}

func TestBranch(t *testing.T) {
	for _, w := range widths {
		for i := range 20 {
			l, r := sumOf(i), sumOf(i*i+1)
			wantSum(t, fmt.Sprintf("P9.7: Branch(%d, ..)", w.asked), node.Branch(w.asked, l, r), pair(w.counts, l, r))
		}
		wantSum(t, fmt.Sprintf("P9.7: Branch(%d, zeros)", w.asked), node.Branch(w.asked, api.Digest{}, api.Digest{}), pair(w.counts, api.Digest{}, api.Digest{}))
	}
}

func TestEmpty(t *testing.T) {
	for _, w := range []int{0, 1, 4, 27, 31, 32} {
		for h, want := range empties(w) {
			wantSum(t, fmt.Sprintf("P9.8: Empty(%d, %d)", w, h), node.Empty(w, h), want)
		}
	}
}

func TestEmptyOfEdges(t *testing.T) {
	for _, w := range widths {
		empty := empties(w.counts)
		for _, h := range heights {
			wantSum(t, fmt.Sprintf("P9.8: Empty(%d, %d)", w.asked, h.asked), node.Empty(w.asked, h.asked), empty[h.counts])
		}
	}
}

// An empty subtree is what its two empty children make.
func TestEmptyOfOneHigher(t *testing.T) {
	for _, w := range []int{-1, 0, 1, 5, 32, 33} {
		for h := range 256 {
			below := node.Empty(w, h)
			wantSum(t, fmt.Sprintf("P9.8: Empty(%d, %d)", w, h+1), node.Empty(w, h+1), node.Branch(w, below, below))
		}
	}
}

// A digest has nothing behind its width.
func TestNothingIsToldBeyondTheWidth(t *testing.T) {
	for _, w := range widths {
		for name, d := range map[string]api.Digest{
			"P9.7: Leaf":   node.Leaf(w.asked, single(9), text(9)),
			"P9.7: Branch": node.Branch(w.asked, sumOf(1), sumOf(2)),
			"P9.8: Empty":  node.Empty(w.asked, 9),
			"P9.9: Climb":  node.Climb(w.asked, single(9), 200, sumOf(3), 256),
			"P9.9: Cut":    node.Climb(w.asked, single(9), 200, sumOf(3), 200),
		} {
			wantSum(t, fmt.Sprintf("%s at width %d", name, w.asked), d, short(w.counts, d))
		}
	}
}

// The digests that DOC.md's section 'Examples of the whole' tells.
func TestDigestsOfTheWhole(t *testing.T) {
	var k api.Key
	for i := range k {
		k[i] = 7
	}
	q := k
	q[0] = 135
	at := func(b ...byte) (d api.Digest) {
		copy(d[:], b)
		return d
	}
	wantSum(t, "P9.8: E(0)", node.Empty(4, 0), at(0xdb, 0xc1, 0xb4, 0xc9))
	wantSum(t, "P9.8: E(1)", node.Empty(4, 1), at(0xd8, 0x44, 0xdd, 0xfd))
	wantSum(t, "P9.8: E(256)", node.Empty(4, 256), at(0x2d, 0x21, 0x47, 0x3a))

	ka, qbc := node.Leaf(4, k, []byte("a")), node.Leaf(4, q, []byte("bc"))
	wantSum(t, "P9.7: K's leaf", ka, at(0x63, 0x9d, 0x23, 0xbb))
	wantSum(t, "P9.9: the root of version 1", node.Climb(4, k, 0, ka, 256), at(0xd5, 0xf5, 0xc4, 0xcd))
	left, right := node.Climb(4, k, 0, ka, 255), node.Climb(4, q, 0, qbc, 255)
	wantSum(t, "P9.9: K's leaf at 255", left, at(16, 218, 130, 142))
	wantSum(t, "P9.9: Q's leaf at 255", right, at(134, 166, 168, 123))
	wantSum(t, "P9.7: the root of version 2", node.Branch(4, left, right), at(0x6a, 0xf6, 0xd3, 0x28))
	wantSum(t, "P9.9: the root of version 3", node.Climb(4, q, 0, qbc, 256), at(0x58, 0x7a, 0x6d, 0x0e))
	if got := fmt.Sprintf("%x", node.Empty(32, 0)); got != "dbc1b4c900ffe48d575b5da5c638040125f65db0fe3e24494b76ea986457d986" {
		t.Errorf("P9.8: E(0) at width 32: %s", got)
	}
	if got := fmt.Sprintf("%x", node.Empty(32, 256)); got != "9b97517f25140762b9e187bae23a31ab78a4230354dece720bbbefcfce8de5a0" {
		t.Errorf("P9.8: E(256) at width 32: %s", got)
	}
}

// With a small width a leaf may have the empty subtree's digest, and is a leaf all the same.
func TestDigestsOfASmallWidthMeet(t *testing.T) {
	met := 0
	for i := range 2000 {
		if node.Leaf(1, single(i%256), text(i/256)) == node.Empty(1, 0) {
			met++
		}
	}
	if met == 0 || met > 40 {
		t.Errorf("P9.7: at width 1 %d of 2000 leaves have the empty subtree's digest", met)
	}
	wantSum(t, "P9.7: at width 0", node.Leaf(0, single(1), text(4)), node.Empty(0, 0))
}
