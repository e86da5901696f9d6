package node_test

import (
	"fmt"
	"testing"

	"ledger/api"
)

// kinds are those of the two nodes, and others.
var kinds = []int{lowest, -1, 0, 1, 2, 3, 4, 257, 258, 1<<32 + 1, highest}

// both tells a branch with two children.
func both() api.Node {
	return api.Node{Kind: 2, Left: 5, Right: 9, LeftCount: 3, RightCount: 4, LeftSum: sumOf(1), RightSum: sumOf(2)}
}

// onlyLeft tells a branch without a right child.
func onlyLeft() api.Node {
	return api.Node{Kind: 2, Left: 5, LeftCount: 3, LeftSum: sumOf(1)}
}

// onlyRight tells a branch without a left child.
func onlyRight() api.Node {
	return api.Node{Kind: 2, Right: 9, RightCount: 4, RightSum: sumOf(2)}
}

func TestEncodeOfLeaves(t *testing.T) {
	for _, k := range []api.Key{{}, single(0), single(255), api.Key(sumOf(3))} {
		for _, n := range []int{0, 1, 2, 127, 128} {
			leaf := api.Node{Kind: 1, Key: k, Val: text(n)}
			wantLoad(t, "P9.1", leaf, append(k[:], leaf.Val...))
		}
		for _, n := range []int{129, 130, 256, 300, 100000} {
			wantNoLoad(t, "P9.1", api.Node{Kind: 1, Key: k, Val: make([]byte, n)})
		}
		wantLoad(t, "P9.1: nil for no bytes", api.Node{Kind: 1, Key: k}, k[:])
	}
}

func TestEncodeOfLeavesWithAnotherFieldSet(t *testing.T) {
	for _, n := range []int{lowest, -1, 1, 2, highest} {
		wantNoLoad(t, "P9.1: Left", api.Node{Kind: 1, Key: single(7), Left: n})
		wantNoLoad(t, "P9.1: Right", api.Node{Kind: 1, Key: single(7), Right: n})
		wantNoLoad(t, "P9.1: LeftCount", api.Node{Kind: 1, Key: single(7), LeftCount: n})
		wantNoLoad(t, "P9.1: RightCount", api.Node{Kind: 1, Key: single(7), RightCount: n})
	}
	for i := range 32 {
		one := api.Digest{}
		one[i] = 1
		wantNoLoad(t, "P9.1: LeftSum", api.Node{Kind: 1, Val: text(128), LeftSum: one})
		wantNoLoad(t, "P9.1: RightSum", api.Node{Kind: 1, Val: text(128), RightSum: one})
	}
	wantNoLoad(t, "P9.1: a whole branch", api.Node{Kind: 1, Left: 5, Right: 6, LeftCount: 1, RightCount: 1})
}

func TestEncodeOfOtherKinds(t *testing.T) {
	for _, kind := range kinds {
		if kind == 1 || kind == 2 {
			continue
		}
		leaf, branch := api.Node{Kind: kind, Key: single(7), Val: text(2)}, both()
		branch.Kind = kind
		wantNoLoad(t, "P9.3", leaf)
		wantNoLoad(t, "P9.3", branch)
		wantNoLoad(t, "P9.3", api.Node{Kind: kind})
	}
	wantNoLoad(t, "P9.3: a branch of zeros", api.Node{Kind: 2})
}

func TestEncodeOfBranches(t *testing.T) {
	zero := api.Digest{}
	wantLoad(t, "P9.2", both(), branchLoad(5, 9, 3, 4, sumOf(1), sumOf(2)))
	wantLoad(t, "P9.2", onlyLeft(), branchLoad(5, 0, 3, 0, sumOf(1), zero))
	wantLoad(t, "P9.2", onlyRight(), branchLoad(0, 9, 0, 4, zero, sumOf(2)))
	n := both()
	n.LeftSum, n.RightSum = zero, zero
	wantLoad(t, "P9.2: digests of zeros beside children", n, branchLoad(5, 9, 3, 4, zero, zero))
	n = both()
	n.Left, n.Right, n.LeftCount, n.RightCount = 0x102, 0xabc, 0x304, 0x506
	wantLoad(t, "P9.2: the lowest byte first", n, branchLoad(0x102, 0xabc, 0x304, 0x506, sumOf(1), sumOf(2)))
	n.LeftSum = n.RightSum
	wantLoad(t, "P9.2: one digest twice", n, branchLoad(0x102, 0xabc, 0x304, 0x506, sumOf(2), sumOf(2)))
}

func TestEncodeOfBranchesWithALeafsFields(t *testing.T) {
	for i := range 256 {
		n := both()
		n.Key = single(i)
		wantNoLoad(t, "P9.2: a key", n)
	}
	for _, size := range []int{1, 128, 129} {
		n := both()
		n.Val = make([]byte, size)
		wantNoLoad(t, "P9.2: a value", n)
	}
	n := both()
	n.Val = []byte{}
	wantLoad(t, "P9.2: an empty value", n, branchLoad(5, 9, 3, 4, sumOf(1), sumOf(2)))
}

func TestEncodeOfPages(t *testing.T) {
	for _, c := range []struct {
		page   int
		stands bool
	}{
		{lowest, false}, {-4095, false}, {-2, false}, {-1, false}, {1, false}, {2, true}, {3, true}, {4094, true}, {4095, true},
		{4096, false}, {4097, false}, {1 << 16, false}, {1 << 32, false}, {1<<32 + 5, false}, {highest, false},
	} {
		for side, n := range map[string]api.Node{"left": onlyLeft(), "right": onlyRight(), "both, left": both(), "both, right": both()} {
			name := fmt.Sprintf("P9.2: page %d, %s", c.page, side)
			if side == "left" || side == "both, left" {
				n.Left = c.page
			} else {
				n.Right = c.page
			}
			if c.stands {
				wantLoad(t, name, n, loadOf(n))
			} else {
				wantNoLoad(t, name, n)
			}
		}
	}
	for _, page := range []int{2, 3, 5, 4095} {
		n := both()
		n.Left, n.Right = page, page
		wantNoLoad(t, "P9.2: one page twice", n)
	}
}

func TestEncodeOfCounts(t *testing.T) {
	for _, c := range []struct {
		left, right int
		stands      bool
	}{
		{1, 1, true}, {1, 2, true}, {2048, 2048, true}, {4095, 1, true}, {1, 4095, true},
		{2, 0, false}, {0, 2, false}, {0, 0, false}, {4096, 0, false},
		{4096, 1, false}, {1, 4096, false}, {2048, 2049, false}, {4096, 4096, false},
		{-1, 3, false}, {3, -1, false}, {-1, -1, false}, {5000, -1000, false}, {lowest, highest, false},
		{highest, 3, false}, {3, highest, false}, {highest, highest, false}, {highest - 1, 1 - highest + 4, false},
		{lowest, lowest, false}, {lowest + 1, lowest + 1, false}, {lowest + 2, lowest + 2, false}, {1 << 62, 1 << 62, false},
		{1<<32 + 1, 1, false}, {1, 1<<32 + 1, false},
	} {
		n := both()
		n.LeftCount, n.RightCount = c.left, c.right
		if c.stands {
			wantLoad(t, "P9.2: counts", n, loadOf(n))
		} else {
			wantNoLoad(t, "P9.2: counts", n)
		}
	}
}

func TestEncodeOfCountsOfOneChild(t *testing.T) {
	for _, c := range []struct {
		count  int
		stands bool
	}{
		{lowest, false}, {-1, false}, {0, false}, {1, false}, {2, true}, {3, true}, {4095, true}, {4096, true}, {4097, false}, {1<<32 + 2, false}, {highest, false},
	} {
		left, right := onlyLeft(), onlyRight()
		left.LeftCount, right.RightCount = c.count, c.count
		for _, n := range []api.Node{left, right} {
			if c.stands {
				wantLoad(t, "P9.2: the count of one child", n, loadOf(n))
			} else {
				wantNoLoad(t, "P9.2: the count of one child", n)
			}
		}
	}
}

func TestEncodeOfWhatStandsBesideNoChild(t *testing.T) {
	for _, count := range []int{lowest, -1, 1, 2, highest} {
		left, right := onlyLeft(), onlyRight()
		left.RightCount, right.LeftCount = count, count
		wantNoLoad(t, "P9.2: a count beside no child", left)
		wantNoLoad(t, "P9.2: a count beside no child", right)
	}
	for i := range 32 {
		left, right := onlyLeft(), onlyRight()
		left.RightSum[i], right.LeftSum[i] = 1, 128
		wantNoLoad(t, "P9.2: a digest beside no child", left)
		wantNoLoad(t, "P9.2: a digest beside no child", right)
	}
	none := both()
	none.Left, none.Right = 0, 0
	wantNoLoad(t, "P9.2: no child", none)
	none.LeftCount, none.RightCount, none.LeftSum, none.RightSum = 0, 0, api.Digest{}, api.Digest{}
	wantNoLoad(t, "P9.2: no child", none)
}
