package node_test

import (
	"fmt"
	"testing"

	"ledger/api"
	"ledger/node"
)

// The keys of the chapter's examples.
var (
	keyK = api.Key{}
	keyC = api.Key{31: 1}
)

func TestEncodeOfExamples(t *testing.T) {
	wantLoad(t, "P9.3: row 1", api.Node{Kind: 1, Key: keyC, Val: []byte("hi")}, append(make([]byte, 31), 1, 'h', 'i'))
	wantNoLoad(t, "P9.3: row 1", api.Node{Kind: 1, Left: 2})
	wantNoLoad(t, "P9.3: row 1", api.Node{Kind: 1, Key: keyC, Val: make([]byte, 129)})

	row2 := append([]byte{5, 0, 0, 0, 0, 0, 0, 0, 2, 0, 0, 0, 0, 0, 0, 0}, make([]byte, 64)...)
	wantLoad(t, "P9.3: row 2", api.Node{Kind: 2, Left: 5, Right: 0, LeftCount: 2}, row2)

	wantNoLoad(t, "P9.3: row 3", api.Node{Kind: 2, Left: 5, Right: 5, LeftCount: 1, RightCount: 1})
	wantNoLoad(t, "P9.3: row 3", api.Node{Kind: 2, Left: 5, LeftCount: 1})
	wantNoLoad(t, "P9.3: row 3", api.Node{Kind: 2, Left: 1, Right: 5, LeftCount: 1, RightCount: 1})
	wantNoLoad(t, "P9.3: row 3", api.Node{Kind: 3})
}

func TestDecodeOfExamples(t *testing.T) {
	wantNoNode(t, "P9.4: row 4", 1, make([]byte, 31))
	wantNoNode(t, "P9.4: row 4", 1, make([]byte, 161))
	wantNoNode(t, "P9.4: row 4", 2, make([]byte, 79))
	wantNoNode(t, "P9.4: row 4", 3, make([]byte, 32))
	wantNode(t, "P9.4: row 4", 1, make([]byte, 32), api.Node{Kind: 1})
}

func TestTextsOfExamples(t *testing.T) {
	l, r := sumOf(1), sumOf(2)
	wantText(t, "P9.5: row 5", node.LeafText(keyK, nil), make([]byte, 33))
	wantText(t, "P9.5: row 5", node.BranchText(1, l, r), []byte{1, l[0], r[0]})
	wantText(t, "P9.5: row 5", node.BranchText(0, l, r), []byte{1})
	wantText(t, "P9.5: row 5", node.BranchText(40, l, r), append(append([]byte{1}, l[:]...), r[:]...))
}

func TestEmptyOfExamples(t *testing.T) {
	wantSum(t, "P9.8: row 6", node.Empty(32, 0), cut(32, []byte{2}))
	wantSum(t, "P9.8: row 6", node.Empty(4, 0), cut(4, []byte{2}))
	wantSum(t, "P9.8: row 6", node.Empty(4, -3), node.Empty(4, 0))
	wantSum(t, "P9.8: row 6", node.Empty(4, 300), node.Empty(4, 256))
	wantSum(t, "P9.7: row 10", node.Leaf(0, keyK, nil), api.Digest{})
}

func TestClimbOfExamples(t *testing.T) {
	d := sumOf(1)
	for _, w := range []int{0, 1, 4, 32} {
		name := fmt.Sprintf("P9.9: width %d", w)
		wantSum(t, name+", row 7", node.Climb(w, keyK, 0, d, 1), node.Branch(w, d, node.Empty(w, 0)))
		wantSum(t, name+", row 7", node.Climb(w, keyC, 0, d, 1), node.Branch(w, node.Empty(w, 0), d))
		wantSum(t, name+", row 7", node.Climb(w, keyC, 1, d, 2), node.Branch(w, d, node.Empty(w, 1)))
		wantSum(t, name+", row 8", node.Climb(w, keyK, 7, d, 7), short(w, d))
		wantSum(t, name+", row 8", node.Climb(w, keyK, 9, d, 7), short(w, d))
		wantSum(t, name+", row 8", node.Climb(w, keyK, -5, d, 1), node.Climb(w, keyK, 0, d, 1))

		// The root of a map with one key, folded here from the bottom: K has no bit set, so it lies left all the way.
		root, empty := cut(w, []byte{0}, keyK[:], []byte("x")), cut(w, []byte{2})
		for range 256 {
			root, empty = pair(w, root, empty), pair(w, empty, empty)
		}
		wantSum(t, name+", row 9", node.Climb(w, keyK, 0, node.Leaf(w, keyK, []byte("x")), 256), root)
		wantSum(t, name+", row 9", node.Empty(w, 256), empty)
	}
}
