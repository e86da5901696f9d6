package tree_test

import (
	"fmt"
	"testing"

	"ledger/api"
	"ledger/tree"
)

// noNodes tells pages that are no nodes, by what is wrong with them.
func noNodes() map[string]func(r *rig) int {
	branch := func(left, right, leftCount, rightCount int) func(r *rig) int {
		return func(r *rig) int { return r.branch(left, right, leftCount, rightCount) }
	}
	load := func(kind, bytes int) func(r *rig) int {
		return func(r *rig) int { return r.forge(kind, make([]byte, bytes)) }
	}
	beside := func(left, right int) func(r *rig) int { // a digest beside page 0
		n := api.Node{Kind: 2, Left: left, Right: right, LeftCount: left, RightCount: right, LeftSum: sumOf(1), RightSum: sumOf(2)}
		return func(r *rig) int { return r.forge(2, loadOf(n)) }
	}
	return map[string]func(r *rig) int{
		"a record": load(3, 56), "an empty record": load(3, 0), "a record like a leaf": load(3, 40), "a record like a branch": load(3, 80),
		"a leaf of 31 bytes": load(1, 31), "of 161": load(1, 161), "of none": load(1, 0),
		"a branch of 79 bytes": load(2, 79), "of 81": load(2, 81), "an empty branch": load(2, 0), "a branch of zeros": load(2, 80),
		"one page twice": branch(2, 2, 1, 1), "a slot": branch(1, 2, 1, 1), "a slot right": branch(2, 1, 1, 1), "one key": branch(2, 0, 1, 0), "one key right": branch(0, 2, 0, 1),
		"page 4096": branch(4096, 2, 1, 1), "4097 keys": branch(2, 3, 4096, 1), "no count": branch(2, 3, 0, 2), "a count of nothing": branch(2, 0, 2, 1),
		"a digest of nothing": beside(2, 0), "a digest of nothing left": beside(0, 2),
	}
}

// P10.3: a page that is no node does not stand, as a root.
func TestRootsThatAreNoNodes(t *testing.T) {
	for name, forge := range noNodes() {
		r := begun(t, "P10.3: "+name, 16, 4)
		r.leaf(keyK, "k")
		r.leaf(keyB, "b")
		root := forge(r)
		for range 2 {
			r.unstaged(func() {
				r.allRefuse(root, api.ErrCorrupt, put(keyK, "k"))
				r.refuses(root, api.ErrCorrupt, del(keyB))
				r.refuses(root, api.ErrCorrupt, put(keyB, "new"), del(keyC))
			})
			r.flush()
		}
	}
}

// P10.3, P10.4: as a child it does not stand either; but who does not come by does not see it.
func TestChildrenThatAreNoNodes(t *testing.T) {
	for name, forge := range noNodes() {
		for _, left := range []bool{false, true} {
			r := begun(t, "P10.3: "+name, 30, 4)
			k, b := r.leaf(keyK, "k"), r.leaf(keyB, "b")
			bad := forge(r)
			good, other, root := keyB, keyK, 0
			if left {
				root = r.branch(bad, b, 1, 1)
			} else {
				good, other = keyK, keyB
				root = r.branch(k, bad, 1, 1)
			}
			r.asRead(root, put(good, "new")) // the other one is taken as it is stated
			r.asReadRoot(root)
			r.unstaged(func() {
				r.gets(root, good, map[api.Key]string{keyK: "k", keyB: "b"}[good])
				r.getsNot(root, flipped(good, 7), api.OK)
				r.getsNot(root, other, api.ErrCorrupt)
				r.getsNot(root, flipped(other, 255), api.ErrCorrupt)
				r.refuses(root, api.ErrCorrupt, put(other, "new"))
				r.refuses(root, api.ErrCorrupt, del(flipped(other, 255)))
				r.refuses(root, api.ErrCorrupt, del(other), put(good, "new"))
				r.updates(root, bad, 0, del(good)) // it moves up unseen
				r.allRefuse(bad, api.ErrCorrupt, put(keyK, "k"))
			})
		}
	}
}

// P10.3: a child's page is below its branch's.
func TestChildrenThatAreNotBelow(t *testing.T) {
	for _, ahead := range []int{0, 1, 2, 3, 100} {
		r := begun(t, fmt.Sprintf("P10.3: %d ahead", ahead), 40, 4)
		b := r.leaf(keyB, "b")
		root := r.branch(r.s.Next()+ahead, b, 1, 1)
		mirror := r.branch(b, r.s.Next()+ahead, 1, 1)
		for range 3 { // the pages ahead are none, then such that would stand there
			r.unstaged(func() {
				for _, k := range []api.Key{keyK, keyC} {
					r.getsNot(root, k, api.ErrCorrupt)
					r.refuses(root, api.ErrCorrupt, put(k, "new"))
					r.refuses(root, api.ErrCorrupt, del(k), put(keyB, "b"))
				}
				r.gets(root, keyB, "b")
				r.getsNot(mirror, keyB, api.ErrCorrupt)
				r.getsNot(mirror, keyK, api.ErrCorrupt) // B's leaf lies on the wrong side
				r.updates(root, root, 0, put(keyB, "b"))
				r.counts(root, 2)
			})
			r.leaf(keyK, "k")
			r.leaf(keyK, "k")
		}
	}
}

// P10.3: a leaf has the count 1 in its branch, a branch the sum of its own.
func TestCountsThatAreWrong(t *testing.T) {
	for _, stated := range []int{1, 2, 3, 4, 4094} {
		r := begun(t, fmt.Sprintf("P10.3: a count of %d", stated), 60, 4)
		k, kk, b := r.leaf(keyOf("00"), "0"), r.leaf(keyOf("01"), "1"), r.leaf(keyB, "b")
		two := r.branch(k, kk, 1, 1)
		three := r.branch(two, b, 2, 1)
		for at, row := range map[int]string{k: "00", two: "00", three: "00"} {
			keys := map[int]int{k: 1, two: 2, three: 3}[at]
			root := r.branch(at, b, stated, 1)
			mirror := r.branch(b, at, 1, stated)
			r.asReadGet(root, keyOf(row))
			r.asReadGet(root, keyB)
			r.asReadGet(mirror, keyB)
			r.counts(root, stated+1)
			if at == three {
				continue // its leaf B lies elsewhere than its place says
			}
			if keys == stated {
				r.gets(root, keyOf(row), "0")
			} else {
				r.getsNot(root, keyOf(row), api.ErrCorrupt)
				r.refuses(root, api.ErrCorrupt, put(keyOf(row), "0"))
			}
			r.gets(root, keyB, "b")
			r.asRead(root, put(keyB, "new"))
		}
	}
}

// P10.3: a root's count is stated by nobody: a leaf or a branch of any counts stands there.
func TestRootsOfAnyCount(t *testing.T) {
	r := begun(t, "P10.3", 30, 4)
	k, b := r.leaf(keyK, "k"), r.leaf(keyB, "b")
	for _, c := range [][2]int{{1, 1}, {1, 4095}, {2048, 2048}, {4095, 1}} {
		root := r.branch(k, b, c[0], c[1])
		r.counts(root, c[0]+c[1])
		r.asReadRoot(root)
	}
	r.counts(k, 1)
}

// chain forges branches, one above the other, each of them on the left of the next, and tells the last one.
func (r *rig) chain(page, keys, n int) int {
	r.Helper()
	for range n {
		page = r.branch(page, 0, keys, 0)
	}
	return page
}

// P10.3: a leaf's key begins with the row of its place.
func TestLeavesInTheWrongPlace(t *testing.T) {
	for _, bits := range []int{1, 2, 8, 100, 254, 255, 256} { // of the leaf's row
		for _, wrong := range []int{0, bits / 2, bits - 1, bits} {
			r := begun(t, fmt.Sprintf("P10.3: the bit %d of a row of %d", wrong, bits), 300, 4)
			key := keyK
			if wrong < 256 {
				key = single(wrong)
			}
			leaf := r.leaf(key, "v")
			beside := r.leaf(single(bits-1), "b")
			root := r.chain(r.branch(leaf, beside, 1, 1), 2, bits-1)
			r.unstaged(func() {
				r.asReadGet(root, keyK)
				r.asReadGet(root, single(bits-1))
				if wrong < bits {
					r.getsNot(root, keyK, api.ErrCorrupt)
					r.refuses(root, api.ErrCorrupt, del(keyK))
					r.refuses(root, api.ErrCorrupt, put(keyK, "v"))
					r.refuses(root, api.ErrCorrupt, put(single(bits-1), "new"), del(keyK))
				} else {
					r.gets(root, key, "v")
				}
				r.gets(root, single(bits-1), "b")
			})
		}
	}
}

// P10.3, P10.19: there is no branch at height 0, however many lie one above the other.
func TestBranchesAtHeight0(t *testing.T) {
	for _, above := range []int{253, 254, 255, 256, 257, 1000, 4000} {
		r := begun(t, fmt.Sprintf("P10.3: beneath %d branches", above), 4096, 4)
		k, c := r.leaf(keyK, "k"), r.leaf(keyC, "c")
		root := r.chain(r.branch(k, c, 1, 1), 2, above)
		switch {
		case above == 255: // the lowest one stands at height 1
			r.gets(root, keyK, "k")
			r.gets(root, keyC, "c")
			r.asRead(root, put(keyK, "new"))
			r.asRead(root, del(keyC))
		case above > 255:
			r.unstaged(func() {
				r.getsNot(root, keyK, api.ErrCorrupt)
				r.getsNot(root, keyC, api.OK) // its path parts from K's at height 1, where there is no page
				r.refuses(root, api.ErrCorrupt, put(keyK, "k"))
				r.refuses(root, api.ErrCorrupt, del(keyK), put(keyB, "b"))
			})
		default: // the leaf C stands where K's row goes on
			r.gets(root, keyK, "k")
			r.getsNot(root, single(above), api.ErrCorrupt)
		}
		r.asReadGet(root, keyB)
		r.asReadGet(root, single(254))
		r.counts(root, 2)
	}
}

// P10.4: what stands at height 0 and is not looked at is taken as it is stated, also with two keys.
func TestTwoKeysStatedAtHeight0(t *testing.T) {
	r := begun(t, "P10.4", 2000, 4)
	k, c := r.leaf(keyK, "k"), r.leaf(keyC, "c")
	low := r.branch(k, c, 1, 1)
	bottom := r.branch(low, c, 2, 1) // at height 1: K's place has two keys, they say
	root := r.chain(bottom, 3, 255)
	r.getsNot(root, keyK, api.ErrCorrupt)
	r.gets(root, keyC, "c")
	next := r.s.Next()
	behind, _ := r.asRead(root, del(keyC))
	r.holds(next, api.Node{Kind: 2, Left: low, LeftCount: 2, LeftSum: r.node(bottom).LeftSum})
	r.counts(behind, 2)
}

// P10.4: Sum and Count look at the root alone.
func TestSumAndCountLookAtTheRootAlone(t *testing.T) {
	for _, w := range []int{1, 4, 32} {
		r := begun(t, "P10.4", 30, w)
		record := r.forge(3, nil)
		roots := []int{r.branch(record, 0, 5, 0), r.branch(0, record, 0, 5), r.branch(record, 25, 5, 6), r.branch(29, record, 4090, 6), r.leaf(keyB, "b")}
		for _, root := range roots {
			r.asReadRoot(root)
		}
		n := r.node(roots[2])
		r.sums(roots[2], pairSum(w, n.LeftSum, n.RightSum))
		r.sums(roots[0], pairSum(w, r.node(roots[0]).LeftSum, emptySum(w, 255)))
		r.sums(roots[1], pairSum(w, emptySum(w, 255), r.node(roots[1]).RightSum))
		r.counts(roots[2], 11)
		r.counts(roots[3], 4096)
	}
}

// P10.10: a child that is as it was keeps what was stated of it, whatever that is, also behind the width.
func TestStatedIsKept(t *testing.T) {
	for _, w := range []int{1, 4, 31, 32} {
		r := begun(t, "P10.10", 60, w)
		k, b := r.leaf(keyK, "k"), r.leaf(keyB, "b")
		root := r.branch(k, b, 1, 1)
		was := r.node(root)
		next := r.s.Next()
		for _, cs := range [][]api.Change{{put(keyK, "new")}, {put(keyK, "new"), put(keyB, "b")}, {put(keyK, "new"), del(flipped(keyB, 9))}} {
			page, _ := r.asRead(root, cs...)
			r.holds(page, api.Node{
				Kind: 2, Left: page - 1, Right: b, LeftCount: 1, RightCount: 1,
				LeftSum: loneSum(w, keyK, "new", 255), RightSum: was.RightSum,
			})
		}
		if e := r.s.Rewind(next); e != api.OK {
			t.Fatal(e)
		}
		// A whole half that is not looked at, with a count that nobody asks about.
		wide := r.branch(k, b, 1, 4000)
		page, _ := r.asRead(wide, put(keyK, "new"))
		r.holds(page, api.Node{
			Kind: 2, Left: page - 1, Right: b, LeftCount: 1, RightCount: 4000,
			LeftSum: loneSum(w, keyK, "new", 255), RightSum: r.node(wide).RightSum,
		})
		// A branch that is looked at and stays as it is: its own stated digest counts, not what its children's would make.
		half := r.branch(r.leaf(keyOf("10"), "10"), r.leaf(keyOf("11"), "11"), 1, 1)
		deep := r.branch(k, half, 1, 2)
		page, _ = r.asRead(deep, put(keyK, "new"), put(keyOf("10"), "10"), del(keyOf("111")))
		r.holds(page, api.Node{
			Kind: 2, Left: page - 1, Right: half, LeftCount: 1, RightCount: 2,
			LeftSum: loneSum(w, keyK, "new", 255), RightSum: r.node(deep).RightSum,
		})
	}
}

// P10.10: a lone leaf that moves up has what was stated of it, climbed, whether it was looked at or not.
func TestStatedIsClimbed(t *testing.T) {
	for _, w := range []int{1, 4, 32} {
		r := begun(t, "P10.10", 60, w)
		b := r.leaf(keyB, "b")
		one, two := r.leaf(keyOf("001"), "1"), r.leaf(keyOf("000"), "0")
		low := r.branch(two, one, 1, 1)
		root := r.branch(r.branch(low, 0, 2, 0), b, 2, 1)
		right, stated := r.node(root).RightSum, r.node(low)
		for _, cs := range [][]api.Change{{del(keyOf("000"))}, {del(keyOf("000")), put(keyOf("001"), "1")}, {del(keyOf("000")), del(keyOf("0011"))}} {
			page, _ := r.asRead(root, cs...)
			r.holds(page, api.Node{
				Kind: 2, Left: one, Right: b, LeftCount: 1, RightCount: 1,
				LeftSum: climbed(w, "001", stated.RightSum, 1), RightSum: right,
			})
		}
		page, _ := r.asRead(root, del(keyOf("001")), put(keyB, "new"))
		r.holds(page, api.Node{
			Kind: 2, Left: two, Right: page - 1, LeftCount: 1, RightCount: 1,
			LeftSum: climbed(w, "000", stated.LeftSum, 1), RightSum: loneSum(w, keyB, "new", 255),
		})
		r.updates(root, one, 0, del(keyOf("000")), del(keyB))
	}
}

// P10.10: a leaf that moves down is worked out anew, whatever was stated of it.
func TestStatedIsNotTakenDown(t *testing.T) {
	for _, w := range []int{1, 4, 32} {
		r := begun(t, "P10.10", 60, w)
		k, b := r.leaf(keyK, "k"), r.leaf(keyB, "b")
		root := r.branch(k, b, 1, 1)
		page, _ := r.asRead(root, put(keyOf("001"), "1"))
		low := api.Node{
			Kind: 2, Left: k, Right: page - 3, LeftCount: 1, RightCount: 1,
			LeftSum: loneSum(w, keyK, "k", 253), RightSum: loneSum(w, keyOf("001"), "1", 253),
		}
		r.holds(page-2, low)
		middle := api.Node{Kind: 2, Left: page - 2, LeftCount: 2, LeftSum: pairSum(w, low.LeftSum, low.RightSum)}
		r.holds(page-1, middle)
		r.holds(page, api.Node{
			Kind: 2, Left: page - 1, Right: b, LeftCount: 2, RightCount: 1,
			LeftSum: pairSum(w, middle.LeftSum, emptySum(w, 254)), RightSum: r.node(root).RightSum,
		})
	}
}

// P10.11: one page would be both children.
func TestOnePageAsBothChildren(t *testing.T) {
	r := begun(t, "P10.11", 60, 4)
	p, q := r.leaf(keyK, "p"), r.leaf(keyOf("01"), "q")
	root := r.branch(r.branch(p, q, 1, 1), p, 2, 1)
	mirror := r.branch(p, r.branch(r.leaf(keyB, "b"), p, 1, 1), 1, 2)
	r.unstaged(func() {
		r.refuses(root, api.ErrCorrupt, del(keyOf("01")))
		r.refuses(root, api.ErrCorrupt, del(keyOf("01")), put(keyK, "p"))
		r.refuses(mirror, api.ErrCorrupt, del(keyB))
		r.updates(root, p, 0, del(keyOf("01")), del(keyK))
	})
	r.asRead(root, put(keyOf("01"), "new"))
	r.asRead(root, del(keyOf("01")), put(keyK, "new"))

	// What is stated of a child that is not looked at may be the number of a page to be staged.
	for ahead := range 4 {
		r := begun(t, fmt.Sprintf("P10.11: %d ahead", ahead), 60, 4)
		k := r.leaf(keyK, "k")
		root := r.branch(k, r.s.Next()+1+ahead, 1, 1)
		_, e := r.asRead(root, put(keyK, "new"))
		if (e == api.ErrCorrupt) != (ahead == 0) {
			t.Errorf("P10.11: %d ahead: %v", ahead, e)
		}
	}
	r = begun(t, "P10.11: on a full disk", 4, 4)
	k := r.leaf(keyK, "k")
	r.branch(k, 4, 1, 1)
	r.unstaged(func() { r.refuses(3, api.ErrCorrupt, put(keyK, "new")) })
}

// P10.11: more than MaxPages keys by the counts.
func TestMoreThanMaxPagesKeys(t *testing.T) {
	for _, stated := range []int{4093, 4094, 4095} {
		r := begun(t, fmt.Sprintf("P10.11: %d beside", stated), 60, 4)
		k, b := r.leaf(keyK, "k"), r.leaf(keyB, "b")
		root := r.branch(k, b, 1, stated)
		mirror := r.branch(r.leaf(keyOf("0"), "0"), r.branch(b, r.leaf(keyOf("11"), "11"), 1, stated-1), 1, stated)
		for _, root := range []int{root, mirror} {
			_, one := r.asRead(root, put(keyOf("01"), "1"))
			_, two := r.asRead(root, put(keyOf("01"), "1"), put(keyOf("001"), "2"))
			_, none := r.asRead(root, put(keyK, "new"))
			if none != api.OK || (one == api.OK) != (stated <= 4094) || (two == api.OK) != (stated <= 4093) {
				t.Errorf("P10.11: %d beside: %v, %v, %v", stated, none, one, two)
			}
		}
	}
	full := begun(t, "P10.11: on a full disk", 5, 4)
	root := full.branch(full.leaf(keyK, "k"), full.leaf(keyB, "b"), 1, 4095)
	full.unstaged(func() {
		full.refuses(root, api.ErrCorrupt, put(keyOf("01"), "1"))
		full.updatesNot(root, api.ErrFull, put(keyK, "new"))
	})
}

// P10.11: a list may make more than MaxPages keys of an honest tree, too.
func TestMoreThanMaxPagesKeysOfAnHonestTree(t *testing.T) {
	r := begun(t, "P10.11", 4096, 4)
	far := flipped(spread(0), 255)
	root := r.updates(0, 2, 1, put(far, "far"))
	r.unstaged(func() {
		r.refuses(root, api.ErrCorrupt, puts(0, 4096)...)
		r.updatesNot(root, api.ErrFull, puts(0, 4095)...)
		if cost, e := tree.Cost(r.s, root, puts(0, 4095)); e != api.OK || cost < 8190 {
			t.Errorf("P10.11: 4096 keys: %d, %v", cost, e)
		}
		if cost, e := tree.Cost(r.s, root, append(puts(1, 4095), put(far, "new"))); e != api.OK || cost != 8191 {
			t.Errorf("P10.11: 4096 keys, one of them anew: %d, %v", cost, e)
		}
	})
}
