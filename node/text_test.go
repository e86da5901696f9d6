package node_test

import (
	"bytes"
	"fmt"
	"slices"
	"testing"

	"ledger/api"
	"ledger/node"
)

func TestLeafText(t *testing.T) {
	for _, k := range []api.Key{{}, single(0), single(255), api.Key(sumOf(3))} {
		for _, n := range []int{0, 1, 2, 30, 31, 32, 128, 129, 300, 70000} {
			wantText(t, fmt.Sprintf("P9.5: LeafText of %d bytes", n), node.LeafText(k, text(n)), slices.Concat([]byte{0}, k[:], text(n)))
		}
		wantText(t, "P9.5: LeafText of nil", node.LeafText(k, nil), slices.Concat([]byte{0}, k[:]))
	}
}

func TestBranchText(t *testing.T) {
	l, r := sumOf(1), sumOf(2)
	for _, w := range widths {
		want := slices.Concat([]byte{1}, l[:w.counts], r[:w.counts])
		wantText(t, fmt.Sprintf("P9.5: BranchText(%d, ..)", w.asked), node.BranchText(w.asked, l, r), want)
	}
	for w := range 33 {
		wantText(t, fmt.Sprintf("P9.5: BranchText(%d, ..)", w), node.BranchText(w, l, r), slices.Concat([]byte{1}, l[:w], r[:w]))
	}
}

// texts are leaf texts that lie near each other, each by its own key and value: a byte moved from the one to the other, a byte more.
func texts() map[string][]byte {
	leaves := map[string][]byte{}
	for _, k := range []api.Key{{}, single(0), single(7), single(255), {31: 2}, api.Key(sumOf(1))} {
		for _, val := range [][]byte{nil, {0}, {0, 0}, {1}, {2}, {2, 0}, {0, 2}, text(32), text(33), text(128), text(129)} {
			leaves[fmt.Sprintf("%x %x", k, val)] = node.LeafText(k, val)
		}
	}
	return leaves
}

func TestLeafTextsOfUnlikeLeavesAreUnlike(t *testing.T) {
	leaves := texts()
	for a, x := range leaves {
		for b, y := range leaves {
			if (a == b) != bytes.Equal(x, y) {
				t.Errorf("P9.6: the texts of %s and %s: %v, %v", a, b, x, y)
			}
		}
	}
	if len(leaves) != 66 {
		t.Errorf("P9.6: %d texts", len(leaves))
	}
}

// A digest's turned bit is seen just where it lies within the width.
func TestBranchTextsSeeTheWidthAlone(t *testing.T) {
	for _, w := range widths {
		for bit := range 256 {
			seen := bit/8 < w.counts
			for side := range 3 {
				wantSeen(t, w.asked, bit, side, seen)
			}
		}
	}
}

// wantSeen asks whether a branch's text has another bit where one of a digest is turned: the left one's, the right one's, both of them's.
func wantSeen(t *testing.T, w, bit, side int, seen bool) {
	t.Helper()
	l, r := sumOf(1), sumOf(2)
	text, sum := node.BranchText(w, l, r), node.Branch(w, l, r)
	if side != 1 {
		l[bit/8] ^= 128 >> (bit % 8)
	}
	if side != 0 {
		r[bit/8] ^= 128 >> (bit % 8)
	}
	if bytes.Equal(node.BranchText(w, l, r), text) == seen {
		t.Errorf("P9.6: BranchText(%d, ..), the bit %d of the side %d: seen is not %t", w, bit, side, seen)
	}
	if !seen && node.Branch(w, l, r) != sum {
		t.Errorf("P9.7: Branch(%d, ..) sees the bit %d of the side %d", w, bit, side)
	}
}

func TestTextsOfUnlikeKindsAreUnlike(t *testing.T) {
	leaves := texts()
	sums := []api.Digest{{}, {0: 1}, {0: 2}, sumOf(1), api.Digest(single(7))}
	for _, w := range widths {
		for _, l := range sums {
			for _, r := range sums {
				branch := node.BranchText(w.asked, l, r)
				if bytes.Equal(branch, []byte{2}) {
					t.Errorf("P9.6: BranchText(%d, ..) is the empty subtree's", w.asked)
				}
				for name, leaf := range leaves {
					if bytes.Equal(branch, leaf) || bytes.Equal(leaf, []byte{2}) {
						t.Errorf("P9.6: BranchText(%d, ..) and the leaf's of %s: %v, %v", w.asked, name, branch, leaf)
					}
				}
			}
		}
	}
}

func TestBranchTextsKeepTheSidesApart(t *testing.T) {
	l, r := sumOf(1), sumOf(2)
	for w := 1; w <= 32; w++ {
		if bytes.Equal(node.BranchText(w, l, r), node.BranchText(w, r, l)) {
			t.Errorf("P9.6: width %d: the sides are told as one", w)
		}
	}
}
