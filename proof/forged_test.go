package proof_test

import (
	"fmt"
	"strings"
	"testing"

	"ledger/api"
	"ledger/proof"
)

// wrongs forges what may not stand beneath a root at 4000 (with one key, under the row 0), and tells each with its name.
func (r *rig) wrongs() map[string]int {
	r.Helper()
	next := r.s.Next()
	r.filler(next + 20)
	other := r.leaf(keyK, "other")
	return map[string]int{
		"a record":                    r.forge(api.KindRecord, make([]byte, 60)),
		"a record of a leaf's length": r.forge(api.KindRecord, make([]byte, 33)),
		"a record as a branch":        r.forge(api.KindRecord, append([]byte{byte(other), 0, 0, 0, byte(next), 0, 0, 0, 1, 0, 0, 0, 1, 0, 0, 0}, make([]byte, 64)...)),
		"a leaf of no key at all":     r.forge(api.KindLeaf, nil),
		"a leaf of 31 bytes":          r.forge(api.KindLeaf, make([]byte, 31)),
		"a leaf of 161 bytes":         r.forge(api.KindLeaf, make([]byte, 161)),
		"a leaf with the longest":     r.forge(api.KindLeaf, make([]byte, 246)),
		"a leaf of the right half":    r.leaf(keyB, "b"),
		"a leaf of the highest key":   r.leaf(keyZ, "z"),
		"a branch of 79 bytes":        r.forge(api.KindBranch, make([]byte, 79)),
		"a branch of 81 bytes":        r.forge(api.KindBranch, make([]byte, 81)),
		"a branch without children":   r.forge(api.KindBranch, make([]byte, 80)),
		"a branch of one page twice":  r.branch(other, other, 1, 1),
		"a branch of one key":         r.branch(other, 0, 1, 0),
		"a branch of a slot":          r.branch(1, other, 1, 1),
		"a branch of 4097 keys":       r.branch(other, next, 4096, 1),
		"a branch of two keys":        r.branch(other, next, 1, 1),
		"a branch of a wrong side":    r.branch(other, 0, 0, 2),
		"a branch with a lonely sum":  r.stating(other, 0, 2, 0, sumOf(1), sumOf(2)),
		"a page that is the root's":   4000,
		"a page above the root's":     4001,
		"a page beyond all":           4095,
	}
}

// P12.1: what does not stand is told where the path goes over it, and does no harm beside it: it is taken as it is stated.
func TestWhatDoesNotStand(t *testing.T) {
	r := begun(t, "", 4096, 4)
	wrongs := r.wrongs()
	right := r.leaf(keyOf("11"), "r")
	r.filler(4000)
	for name, page := range wrongs {
		for _, count := range []int{1, 2} {
			if name == "a branch of two keys" && count == 2 {
				continue // with two keys stated it would be one
			}
			r.promise = fmt.Sprintf("P12.1: %s, stated as %d keys", name, count)
			root := r.branch(page, right, count, 1)
			if root != 4000 {
				t.Fatal(root)
			}
			for _, k := range []api.Key{keyK, keyC, keyOf("01"), keyOf("0" + strings.Repeat("1", 255))} {
				r.refuses(root, k, api.ErrCorrupt)
				r.asRead(root, k)
			}
			r.proves(root, keyOf("11"), there("r", []int{255}, leftOf(root)))
			r.proves(root, keyB, notThere([]int{254, 255}, loneSum(4, keyOf("11"), "r", 254), leftOf(root)))
			r.rewind(4000)
		}
	}
}

// P12.1: the same on the right of a root.
func TestWhatDoesNotStandOnTheRight(t *testing.T) {
	r := begun(t, "", 4096, 4)
	wrongs := r.wrongs()
	delete(wrongs, "a leaf of the right half")
	delete(wrongs, "a leaf of the highest key")
	wrongs["a leaf of the left half"] = r.leaf(keyOf("0"+strings.Repeat("1", 255)), "x")
	left := r.leaf(keyOf("01"), "l")
	r.filler(4000)
	for name, page := range wrongs {
		r.promise = "P12.1: " + name
		root := r.branch(left, page, 1, 1)
		for _, k := range []api.Key{keyB, keyZ, keyOf("11")} {
			r.refuses(root, k, api.ErrCorrupt)
			r.asRead(root, k)
		}
		r.proves(root, keyOf("01"), there("l", []int{255}, rightOf(root)))
		r.proves(root, keyK, notThere([]int{254, 255}, loneSum(4, keyOf("01"), "l", 254), rightOf(root)))
		r.rewind(4000)
	}
}

// P12.1: a root is held to its form alone: nobody states its number, its count or its row.
func TestRootIsNotStated(t *testing.T) {
	r := begun(t, "P12.1: the root's place", 4096, 4)
	wrongs := r.wrongs()
	for _, name := range []string{"a leaf of the right half", "a leaf of the highest key", "a branch of two keys", "a page that is the root's", "a page above the root's", "a page beyond all"} {
		delete(wrongs, name)
	}
	for name, root := range wrongs {
		r.promise = "P12.1: as a root: " + name
		r.refuses(root, keyK, api.ErrCorrupt)
		r.refuses(root, keyZ, api.ErrCorrupt)
	}
	r.promise = "P12.1: the root's place"
	z := r.leaf(keyZ, "z")
	r.proves(z, keyZ, there("z", nil))
	r.proves(z, keyK, notThere([]int{255}, loneSum(4, keyZ, "z", 255)))
	r.filler(4095)
	last := r.branch(r.s.Next()-1, z, 4095, 1)
	if last != 4095 {
		t.Fatal(last)
	}
	r.proves(last, keyZ, there("z", []int{255}, leftOf(last)))
	r.refuses(last, keyK, api.ErrCorrupt)
}

// P12.1: counts of a branch beneath a branch that are not its own.
func TestWrongCounts(t *testing.T) {
	for _, lie := range []int{-2, -1, 1, 2, 4000} {
		r := begun(t, fmt.Sprintf("P12.1: counts: %d", lie), 60, 4)
		deep := r.branch(r.leaf(keyOf("010"), "b"), r.leaf(keyOf("011"), "c"), 1, 1)
		low := r.branch(r.leaf(keyOf("00"), "a"), deep, 1, 2)
		root := r.branch(low, r.leaf(keyOf("1"), "d"), 3+lie, 1)
		for _, row := range []string{"00", "010", "011", "0111", "001"} {
			r.refuses(root, keyOf(row), api.ErrCorrupt)
		}
		r.proves(root, keyOf("1"), there("d", []int{255}, leftOf(root)))
		right := r.branch(low, r.leaf(keyOf("1"), "d"), 3, 1)
		r.proves(right, keyOf("00"), there("a", []int{254, 255}, rightOf(low), rightOf(right)))
		r.proves(right, keyOf("011"), there("c", []int{253, 254, 255}, leftOf(deep), leftOf(low), rightOf(right)))
	}
}

// P12.1, P12.2: a leaf's key begins with the bits of its place, at every height: so the path never has a branch where k and the leaf's key part.
func TestLeafOfAnotherPlace(t *testing.T) {
	base := keyOf("0110100110010110")
	path := bitsOf(base)
	for _, bits := range []int{1, 2, 8, 9, 100, 255, 256} {
		for _, bit := range []int{0, 1, bits - 1, bits, bits + 1, 255} {
			if bit > 255 {
				continue
			}
			r := begun(t, fmt.Sprintf("P12.1: a leaf at %d bits, bit %d turned", bits, bit), 900, 4)
			leaf, beside := r.leaf(flipped(base, bit), "x"), r.leaf(flipped(base, bits-1), "y")
			low, sum := r.s.Next(), leftOf(r.s.Next())
			if path[bits-1] == '0' {
				low, sum = r.branch(leaf, beside, 1, 1), rightOf(r.s.Next()-1)
			} else {
				r.branch(beside, leaf, 1, 1)
			}
			root := r.chain(low, 2, path[:bits-1], 0)
			x := r.asRead(root, base)
			if bit < bits {
				r.refuses(root, base, api.ErrCorrupt)
				r.asRead(root, flipped(base, 255))
				continue
			}
			// Without a branch of the height that parts the two the leaf is the neighbour there; the branch above it states the other one.
			if len(x.branches) != bits || x.branches[256-bit].Kind != 0 {
				t.Fatalf("%s: %d branches", r.promise, len(x.branches))
			}
			r.proves(root, base, notThere([]int{255 - bit, 256 - bits}, loneSum(4, flipped(base, bit), "x", 255-bit), sum))
		}
	}
}

// P12.1: a branch at height 0 does not stand, a leaf there does; a branch at height 1 is the lowest.
func TestBranchAtTheEnd(t *testing.T) {
	r := begun(t, "P12.1: a branch at height 0", 2000, 4)
	k, c := r.leaf(keyK, "k"), r.leaf(keyC, "c")
	low := r.branch(k, c, 1, 1)
	right := r.chain(low, 2, strings.Repeat("0", 255), 0)
	r.proves(right, keyK, there("k", []int{0}, rightOf(low)))
	r.proves(right, keyC, there("c", []int{0}, leftOf(low)))
	wrong := r.chain(low, 2, strings.Repeat("0", 256), 0)
	r.refuses(wrong, keyK, api.ErrCorrupt)
	// Beside the chain's last step there is no page: the path of C ends there, the branch at height 1 states the left side.
	beneath := low + 255 + 1
	r.proves(wrong, keyC, notThere([]int{0}, leftOf(beneath)))
	// Nor does it where one of its sides has no page: the path may not end beneath it.
	for _, low := range []int{r.branch(0, c, 0, 2), r.branch(k, 0, 2, 0)} {
		wrong = r.chain(low, 2, strings.Repeat("0", 256), 0)
		r.refuses(wrong, keyK, api.ErrCorrupt)
		r.asRead(wrong, keyC)
		wrong = r.chain(low, 2, strings.Repeat("1", 256), 0)
		r.refuses(wrong, keyZ, api.ErrCorrupt)
	}
}

// P12.1: a child's number is below its branch's: one that would stand but for its number does not.
func TestChildAboveItsBranch(t *testing.T) {
	r := begun(t, "P12.1: a child above its branch", 60, 4)
	b := r.leaf(keyB, "b")
	root := r.branch(r.s.Next()+1, b, 1, 1)
	r.leaf(keyK, "k")
	r.refuses(root, keyK, api.ErrCorrupt)
	r.proves(root, keyB, there("b", []int{255}, leftOf(root)))
	top := r.branch(root+1, b, 1, 1)
	r.proves(top, keyK, there("k", []int{255}, rightOf(top)))
	// A branch that is its own child: by its count, too, it would stand.
	self := r.branch(r.s.Next(), 0, 2, 0)
	r.refuses(self, keyK, api.ErrCorrupt)
	r.refuses(self, keyOf("01"), api.ErrCorrupt)
	r.proves(self, keyB, notThere([]int{255}, leftOf(self)))
	// Two that are each other's.
	one := r.branch(0, r.s.Next()+1, 0, 2)
	two := r.branch(0, one, 0, 2)
	for _, root := range []int{one, two} {
		r.refuses(root, keyZ, api.ErrCorrupt)
		r.refuses(root, keyOf("11101"), api.ErrCorrupt)
		r.proves(root, keyK, notThere([]int{255}, rightOf(root)))
	}
	r.proves(two, keyB, notThere([]int{254}, rightOf(one)))
}

// P12.2, P12.3: the proof says what the path's pages say, digests that no tree would have too, in all their bytes.
func TestDigestsAreBelieved(t *testing.T) {
	for _, w := range []int{1, 4, 31, 32} {
		r := begun(t, fmt.Sprintf("P12.3: width %d", w), 60, w)
		a, b := r.leaf(keyOf("000"), "a"), r.leaf(keyOf("001"), "b")
		c, d := r.leaf(keyOf("01"), "c"), r.leaf(keyOf("1"), "d")
		deep := r.branch(a, b, 1, 1)
		low := r.branch(deep, c, 2, 1)
		root := r.branch(low, d, 3, 1)
		r.proves(root, keyOf("000"), there("a", []int{253, 254, 255}, rightOf(deep), rightOf(low), rightOf(root)))
		r.proves(root, keyOf("001"), there("b", []int{253, 254, 255}, leftOf(deep), rightOf(low), rightOf(root)))
		r.proves(root, keyOf("01"), there("c", []int{254, 255}, leftOf(low), rightOf(root)))
		r.proves(root, keyOf("1"), there("d", []int{255}, leftOf(root)))
		// What is not stated is worked out from the leaf.
		want := notThere([]int{254, 255}, loneSum(w, keyOf("1"), "d", 254), leftOf(root))
		if loneSum(w, keyOf("1"), "d", 254) == emptySum(w, 254) {
			want = notThere([]int{255}, leftOf(root))
		}
		r.proves(root, keyOf("11"), want)
	}
}

// P12.2: a stated digest is held against the empty one in all its bytes, and against that of its own height alone.
func TestStatedEmpty(t *testing.T) {
	for _, w := range []int{1, 4, 32} {
		r := begun(t, fmt.Sprintf("P12.2, P12.3: width %d", w), 60, w)
		k, b := r.leaf(keyK, "k"), r.leaf(keyB, "b")
		near := func(sum api.Digest) api.Proof {
			root := r.stating(k, b, 1, 1, api.Digest{7}, sum)
			p, e := proof.Prove(r.s, root, keyK)
			if e != api.OK || !p.Found || string(p.Val) != "k" {
				t.Fatal(e, told(p))
			}
			r.asRead(root, keyK)
			return p
		}
		empty := emptySum(w, 255)
		if p := near(empty); !same(p, there("k", nil)) {
			t.Errorf("%s: the empty subtree's digest: %s", r.promise, told(p))
		}
		beyond := empty
		beyond[31] ^= 1
		first := empty
		first[0] ^= 128
		for _, sum := range []api.Digest{{}, beyond, first, {31: 1}} {
			if p := near(sum); !same(p, there("k", []int{255}, sum)) {
				t.Errorf("%s: %x: %s", r.promise, sum, told(p))
			}
		}
		for _, h := range []int{0, 1, 253, 254, 256} {
			want := there("k", []int{255}, emptySum(w, h))
			if emptySum(w, h) == empty {
				want = there("k", nil)
			}
			if p := near(emptySum(w, h)); !same(p, want) {
				t.Errorf("%s: the empty subtree's digest of height %d: %s", r.promise, h, told(p))
			}
		}
	}
}

// P12.2: of a side without a page nothing is stated: it is the empty subtree's digest, not zeros.
func TestSideWithoutPage(t *testing.T) {
	for _, w := range []int{1, 2, 32} {
		r := begun(t, fmt.Sprintf("P12.2: width %d", w), 60, w)
		low := r.branch(r.leaf(keyOf("10"), "a"), r.leaf(keyOf("11"), "b"), 1, 1)
		root := r.branch(0, low, 0, 2)
		r.proves(root, keyOf("10"), there("a", []int{254}, rightOf(low)))
		r.proves(root, keyOf("11"), there("b", []int{254}, leftOf(low)))
		r.proves(root, keyK, notThere([]int{255}, rightOf(root)))
	}
}

// R1: every path ends, also where branches lead to themselves or to one another.
func TestEveryPathEnds(t *testing.T) {
	r := begun(t, "R1", 300, 4)
	k, b := r.leaf(keyK, "k"), r.leaf(keyB, "b")
	for _, root := range []int{r.branch(r.s.Next(), b, 1, 1), r.branch(r.s.Next()+1, b, 2, 1), r.branch(r.s.Next()-1, b, 3, 1), r.branch(k, r.s.Next(), 1, 1), r.branch(4095, b, 1, 1)} {
		for _, key := range []api.Key{keyK, keyB, keyC, keyZ} {
			r.asRead(root, key)
		}
	}
	page := r.branch(k, b, 1, 1)
	for range 280 {
		page = r.branch(page, 0, 2, 0)
	}
	r.refuses(page, keyK, api.ErrCorrupt)
}

// P12.1: of forged trees, too, nothing is staged, written or synced.
func TestForgedTreesAreLeft(t *testing.T) {
	r := begun(t, "forged", 4096, 4)
	wrongs := r.wrongs()
	right := r.leaf(keyOf("11"), "r")
	r.flush()
	for _, page := range wrongs {
		root := r.branch(page, right, 1, 1)
		r.quiet(func() {
			for _, k := range []api.Key{keyK, keyB, keyOf("11")} {
				proof.Prove(r.s, root, k)
			}
		})
	}
}
