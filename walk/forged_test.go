package walk_test

import (
	"fmt"
	"strings"
	"testing"

	"ledger/api"
	"ledger/walk"
)

// wrongs forges what may not stand on the left of a root (the row 0, with one key), and tells each with its name.
func (r *rig) wrongs() map[string]int {
	r.Helper()
	next := r.s.Next()
	r.filler(next + 20)
	other := r.leaf(keyA, "other")
	return map[string]int{
		"a record":                    r.forge(api.KindRecord, make([]byte, 60)),
		"a leaf of 31 bytes":          r.forge(api.KindLeaf, make([]byte, 31)),
		"a leaf of 161 bytes":         r.forge(api.KindLeaf, make([]byte, 161)),
		"a branch of 79 bytes":        r.forge(api.KindBranch, make([]byte, 79)),
		"a branch without children":   r.forge(api.KindBranch, make([]byte, 80)),
		"a branch of one page twice":  r.branch(other, other, 1, 1),
		"a branch of one key":         r.branch(other, 0, 1, 0),
		"a branch of a slot":          r.branch(1, other, 1, 1),
		"a branch of 4097 keys":       r.branch(other, next, 4096, 1),
		"a branch of two keys":        r.branch(other, next, 1, 1),
		"a leaf of the right half":    r.leaf(keyB, "b"),
		"a leaf of the highest key":   r.leaf(keyZ, "z"),
		"a page that is the root's":   4000,
		"a page above the root's":     4001,
		"a page beyond all":           4095,
		"a record of a key's length":  r.forge(api.KindRecord, make([]byte, 33)),
		"a leaf of no key at all":     r.forge(api.KindLeaf, nil),
		"a branch that states a lie":  r.branch(other, 0, 0, 2),
		"a branch with a lonely sum":  r.forge(api.KindBranch, append(append([]byte{byte(other), 0, 0, 0, 0, 0, 0, 0, 2, 0, 0, 0, 0, 0, 0, 0}, text(1, 32)...), text(2, 32)...)),
		"a branch of 81 bytes":        r.forge(api.KindBranch, make([]byte, 81)),
		"a leaf with too long a load": r.forge(api.KindLeaf, make([]byte, 246)),
	}
}

// What is asked of a page: what does not fit is told where a walk meets it, on the left of a root as well as on the right, and does no harm elsewhere.
func TestWhatDoesNotFit(t *testing.T) {
	r := begun(t, "", 4096)
	wrongs := r.wrongs()
	right := r.leaf(keyOf("11"), "r")
	r.filler(4000)
	for name, page := range wrongs {
		r.promise = "what does not fit: " + name
		root := r.branch(page, right, 1, 1)
		if root != 4000 {
			t.Fatal(root)
		}
		r.refused(root, api.ErrCorrupt)
		r.scans(root, keyA, keyA, 0, "", false, api.ErrCorrupt)
		r.differs(root, right, api.ErrCorrupt)
		r.differs(right, root, api.ErrCorrupt)
		r.ranks(root, moved(keyB, -1), 0, api.ErrCorrupt)
		r.gives(root, moved(keyB, -1), "", api.ErrCorrupt)
		// Off the way.
		r.gives(root, keyB, "r", api.OK)
		r.scans(root, keyB, keyZ, 5, "r", false, api.OK)
		r.ranks(root, keyB, 1, api.OK)
		r.ranks(root, keyZ, 2, api.OK)
		r.has(root, 1, keyOf("11"), "r")
		r.rewind(4000)
		if name == "a branch of two keys" {
			continue // with two keys stated it would be one
		}
		// A count of two does not make it right either.
		root = r.branch(page, right, 2, 1)
		r.refused(root, api.ErrCorrupt)
		r.has(root, 2, keyOf("11"), "r")
		r.rewind(4000)
	}
}

// What is asked of a page, on the right of a root: all to the left has been given.
func TestWhatDoesNotFitOnTheRight(t *testing.T) {
	r := begun(t, "", 4096)
	wrongs := r.wrongs()
	delete(wrongs, "a leaf of the right half")
	delete(wrongs, "a leaf of the highest key")
	wrongs["a leaf of the left half"] = r.leaf(moved(keyB, -1), "x")
	left := r.leaf(keyOf("01"), "l")
	r.filler(4000)
	for name, page := range wrongs {
		r.promise = "what does not fit: " + name
		root := r.branch(left, page, 1, 1)
		r.gives(root, keyA, "l", api.ErrCorrupt)
		r.gives(root, keyB, "", api.ErrCorrupt)
		r.gives(root, keyZ, "", api.ErrCorrupt)
		r.scans(root, keyA, keyZ, 0, "", true, api.OK)
		r.scans(root, keyA, keyZ, 1, "", false, api.ErrCorrupt)
		r.scans(root, keyA, keyB, 5, "", false, api.ErrCorrupt)
		r.scans(root, keyA, moved(keyB, -1), 5, "l", false, api.OK)
		r.differs(root, 0, api.ErrCorrupt)
		r.differs(left, root, api.ErrCorrupt)
		r.ranks(root, keyB, 0, api.ErrCorrupt)
		r.ranks(root, moved(keyB, -1), 1, api.OK)
		r.hasNot(root, 1, api.ErrCorrupt)
		r.has(root, 0, keyOf("01"), "l")
		r.rewind(4000)
	}
}

// A root may be what beneath a branch would not fit by its number or its count: nobody states these of it.
func TestRootIsNotCounted(t *testing.T) {
	r := begun(t, "the root's place", 40)
	a, b := r.leaf(keyA, "a"), r.leaf(keyB, "b")
	root := r.branch(a, b, 1, 1)
	if top := r.s.Next() - 1; root != top {
		t.Fatal(root, top)
	}
	r.gives(root, keyA, "ab", api.OK)
	r.gives(a, keyA, "a", api.OK)
	r.gives(b, keyA, "b", api.OK)
	r.ranks(root, keyZ, 2, api.OK)
}

// Wrong counts: of a branch beneath a branch, one more and one less, on either side.
func TestWrongCounts(t *testing.T) {
	for _, lie := range []int{-2, -1, 1, 2, 4000} {
		r := begun(t, fmt.Sprintf("counts: %d", lie), 60)
		low := r.branch(r.leaf(keyOf("00"), "a"), r.branch(r.leaf(keyOf("010"), "b"), r.leaf(keyOf("011"), "c"), 1, 1), 1, 2)
		far := r.leaf(keyOf("1"), "d")
		root := r.branch(low, far, 3+lie, 1)
		r.refused(root, api.ErrCorrupt)
		r.gives(root, keyOf("011"), "", api.ErrCorrupt)
		r.ranks(root, keyOf("011"), 0, api.ErrCorrupt)
		r.hasNot(root, 2+lie, api.ErrCorrupt)
		r.hasNot(root, 4+lie, api.ErrRange)
		r.has(root, 3+lie, keyOf("1"), "d")
		r.ranks(root, keyZ, 4+lie, api.OK)
		r.gives(root, keyB, "d", api.OK)
		right := r.branch(low, far, 3, 1)
		r.gives(right, keyA, "abcd", api.OK)
	}
}

// A leaf's key begins with the bits of its place: at every height, one bit beside it.
func TestLeafOfAnotherPlace(t *testing.T) {
	base := keyOf("0110100110010110")
	path := bitsOf(base)
	for _, bits := range []int{1, 2, 8, 9, 100, 255, 256} {
		for _, bit := range []int{0, 1, bits - 1, bits, 255} {
			if bit > 255 {
				continue
			}
			r := begun(t, fmt.Sprintf("a leaf at %d bits, bit %d turned", bits, bit), 900)
			// One level above the leaf stands a branch that has a key beside it; from there a chain goes up.
			leaf, beside := r.leaf(flipped(base, bit), "x"), r.leaf(flipped(base, bits-1), "y")
			var low int
			if path[bits-1] == '0' {
				low = r.branch(leaf, beside, 1, 1)
			} else {
				low = r.branch(beside, leaf, 1, 1)
			}
			root := r.chain(low, 2, path[:bits-1], 0)
			x := r.asReadFrom(root, keyA)
			if x.broken != (bit < bits) {
				t.Errorf("%s: broken %t", r.promise, x.broken)
			}
			r.asReadScan(root, base, base, 5)
			r.asReadBetween(root, 0)
			r.asReadBetween(0, root)
			r.asReadRank(root, base)
			r.asReadAt(root, 0)
			r.asReadAt(root, 1)
		}
	}
}

// A branch at height 0 is refused, a leaf there is not; a branch at height 1 is the lowest.
func TestBranchAtTheEnd(t *testing.T) {
	r := begun(t, "a branch at height 0", 900)
	a, c := r.leaf(keyA, "a"), r.leaf(keyC, "c")
	low := r.branch(a, c, 1, 1)
	right := r.chain(low, 2, strings.Repeat("0", 255), 0)
	r.gives(right, keyA, "ac", api.OK)
	r.differs(0, right, api.OK, put(keyA, "a"), put(keyC, "c"))
	wrong := r.chain(low, 2, strings.Repeat("0", 256), 0)
	r.refused(wrong, api.ErrCorrupt)
	r.scans(wrong, keyA, keyA, 0, "", false, api.ErrCorrupt)
	r.differs(wrong, right, api.ErrCorrupt)
	r.differs(right, wrong, api.ErrCorrupt)
	r.differs(a, wrong, api.ErrCorrupt)
	r.ranks(wrong, keyC, 2, api.OK) // beside the chain's last step there is none
	r.gives(wrong, keyC, "", api.OK)
}

// Wrong digests are not asked.
func TestDigestsAreNotAsked(t *testing.T) {
	r := begun(t, "digests", 60)
	m := entries{keyOf("00"): "a", keyOf("01"): "b", keyOf("10"): "c", keyOf("110"): "d", keyOf("111"): "e"}
	right := r.update(0, m.puts()...)
	// branch writes digests that are none of any tree.
	forged := r.branch(r.branch(r.leaf(keyOf("00"), "a"), r.leaf(keyOf("01"), "b"), 1, 1),
		r.branch(r.leaf(keyOf("10"), "c"), r.branch(r.leaf(keyOf("110"), "d"), r.leaf(keyOf("111"), "e"), 1, 1), 1, 2), 2, 3)
	r.gives(forged, keyA, "abcde", api.OK)
	r.scans(forged, keyOf("01"), keyOf("110"), 9, "bcd", false, api.OK)
	r.differs(right, forged, api.OK)
	r.differs(forged, right, api.OK)
	r.differs(0, forged, api.OK, m.puts()...)
	for i, k := range m.rising() {
		r.ranks(forged, k, i, api.OK)
		r.has(forged, i, k, m[k])
	}
}

// Every walk ends, also where each branch leads to itself or to one another, up or down.
func TestEveryWalkEnds(t *testing.T) {
	r := begun(t, "R1", 300)
	a, b := r.leaf(keyA, "a"), r.leaf(keyB, "b")
	for _, root := range []int{r.branch(r.s.Next(), b, 1, 1), r.branch(r.s.Next()+1, b, 2, 1), r.branch(r.s.Next()-1, b, 3, 1), r.branch(a, r.s.Next(), 1, 1), r.branch(4095, b, 1, 1)} {
		r.asReadFrom(root, keyA)
		r.asReadScan(root, keyA, keyZ, 7)
		r.asReadBetween(root, a)
		r.asReadBetween(b, root)
		for _, k := range []api.Key{keyA, keyB, keyC, keyZ} {
			r.asReadRank(root, k)
		}
		for i := range 4 {
			r.asReadAt(root, i)
		}
	}
	// A chain of branches through one another, as deep as may be and deeper.
	page := r.branch(a, b, 1, 1)
	for range 280 {
		page = r.branch(page, 0, 2, 0)
	}
	r.refused(page, api.ErrCorrupt)
}

// P11.12: of forged trees, too, nothing is staged, written or synced.
func TestForgedTreesAreLeft(t *testing.T) {
	r := begun(t, "P11.12", 4096)
	wrongs := r.wrongs()
	right := r.leaf(keyOf("11"), "r")
	r.flush()
	for _, page := range wrongs {
		root := r.branch(page, right, 1, 1)
		r.quiet(func() {
			given(walk.From(r.s, root, keyA))
			walk.Scan(r.s, root, keyA, keyZ, 5)
			walk.Between(r.s, root, right)
			walk.Between(r.s, 0, root)
			walk.Rank(r.s, root, keyA)
			walk.At(r.s, root, 0)
		})
	}
}
