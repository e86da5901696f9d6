package tree_test

import (
	"testing"

	"ledger/api"
	"ledger/node"
)

// The rows of the chapter's examples, by their numbers.

// behind3 goes through the examples 1 to 3: page 2 is K's leaf, page 3 is B's, page 4 the branch of both.
func behind3(t *testing.T) *rig {
	t.Helper()
	r := begun(t, "example 1", 600, 4)
	r.getsNot(0, keyK, api.OK)
	r.sums(0, node.Empty(4, 256))
	r.counts(0, 0)
	for _, root := range []int{1, 2, -1} {
		r.getsNot(root, keyK, api.ErrPage)
	}

	r.promise = "example 2"
	r.updates(0, 2, 1, put(keyK, "x"))
	r.holds(2, api.Node{Kind: 1, Key: keyK, Val: []byte("x")})
	whole := node.Climb(4, keyK, 0, node.Leaf(4, keyK, []byte("x")), 256)
	r.sums(2, whole)

	r.promise = "example 3"
	r.updates(2, 4, 2, put(keyB, "y"))
	r.holds(3, api.Node{Kind: 1, Key: keyB, Val: []byte("y")})
	r.holds(4, api.Node{
		Kind: 2, Left: 2, Right: 3, LeftCount: 1, RightCount: 1,
		LeftSum:  node.Climb(4, keyK, 0, node.Leaf(4, keyK, []byte("x")), 255),
		RightSum: node.Climb(4, keyB, 0, node.Leaf(4, keyB, []byte("y")), 255),
	})
	r.sums(2, whole)
	return r
}

func TestExamples1To5(t *testing.T) {
	r := behind3(t)
	r.promise = "example 4"
	r.updates(4, 4, 0, put(keyB, "y"))
	r.updates(4, 4, 0, del(keyC))
	r.updates(4, 4, 0)

	r.promise = "example 5"
	r.updates(4, 2, 0, del(keyB))
	r.updates(4, 0, 0, del(keyK), del(keyB))
}

func TestExample6(t *testing.T) {
	r := behind3(t)
	r.promise = "example 6"
	r.updates(2, 5+256, 257, put(keyC, "z"))
	r.holds(5, api.Node{Kind: 1, Key: keyC, Val: []byte("z")})
	r.holds(6, api.Node{
		Kind: 2, Left: 2, Right: 5, LeftCount: 1, RightCount: 1,
		LeftSum: node.Leaf(4, keyK, []byte("x")), RightSum: node.Leaf(4, keyC, []byte("z")),
	})
	root := r.node(261)
	if root.Left != 260 || root.Right != 0 || root.LeftCount != 2 || root.RightCount != 0 {
		t.Errorf("example 6: the root: %+v", root)
	}
}

func TestExample7(t *testing.T) {
	r := behind3(t)
	r.promise = "example 7"
	root := r.updates(4, 261, 257, put(keyC, "z"))
	r.updates(root, 262, 1, del(keyC))
	lowest := r.node(6)
	r.holds(262, api.Node{
		Kind: 2, Left: 2, Right: 3, LeftCount: 1, RightCount: 1,
		LeftSum: node.Climb(4, keyK, 0, lowest.LeftSum, 255), RightSum: r.node(root).RightSum,
	})
}

func TestExample8(t *testing.T) {
	r := begun(t, "example 8", 16, 4)
	r.refuses(0, api.ErrDup, put(keyK, "x"), del(keyK))
	r.refuses(0, api.ErrLong, put(keyK, string(make([]byte, 129))))
	r.refuses(0, api.ErrMany, make([]api.Change, 4097)...)
}

func TestExample9(t *testing.T) {
	r := begun(t, "example 9", 5, 4)
	r.updates(0, 4, 3, put(keyK, ""), put(keyB, ""))
	if r.s.Next() != 5 {
		t.Errorf("example 9: Next is %d", r.s.Next())
	}
	r.updatesNot(4, api.ErrFull, put(keyK, "other"))
	r.updates(4, 3, 0, del(keyK))
}

func TestExample10(t *testing.T) {
	r := begun(t, "example 10", 16, 4)
	record := r.forge(3, []byte("abc"))
	r.getsNot(record, keyK, api.ErrCorrupt)
	for _, left := range []int{6, 7} {
		r := begun(t, "example 10", 16, 4)
		right := r.leaf(keyB, "b")
		r.filler(6)
		r.branch(left, right, 1, 1)
		for range 2 { // page 7 is none at first, then one that would stand
			r.getsNot(6, keyK, api.ErrCorrupt)
			r.getsNot(6, keyC, api.ErrCorrupt)
			r.gets(6, keyB, "b")
			r.getsNot(6, flipped(keyB, 9), api.OK)
			r.leaf(keyK, "k")
		}
	}
}
