package node_test

import (
	"bytes"
	"fmt"
	"testing"

	"ledger/api"
)

// Each kind with loads of each length: of zeros, which no branch has, and of a branch with more or less behind it.
func TestDecodeOfLengths(t *testing.T) {
	whole := append(branchLoad(5, 9, 3, 4, sumOf(1), sumOf(2)), text(400)...)
	for _, kind := range kinds {
		for _, n := range []int{0, 1, 16, 31, 32, 33, 79, 80, 81, 159, 160, 161, 162, 246, 300, 480} {
			for _, load := range [][]byte{whole[:n], make([]byte, n)} {
				name := fmt.Sprintf("P9.4: %d bytes", n)
				switch {
				case kind == 1 && n >= 32 && n <= 160:
					wantNode(t, name, kind, load, api.Node{Kind: 1, Key: api.Key(load[:32]), Val: load[32:]})
				case kind == 2 && n == 80 && load[0] != 0:
					wantNode(t, name, kind, load, both())
				default:
					wantNoNode(t, name, kind, load)
				}
			}
		}
		wantNoNode(t, "P9.4: nil", kind, nil)
	}
}

func TestDecodeOfLeaves(t *testing.T) {
	for n := range 129 {
		k := api.Key(sumOf(n))
		wantNode(t, "P9.4: a leaf", 1, append(k[:], text(n)...), api.Node{Kind: 1, Key: k, Val: text(n)})
	}
}

func TestDecodeOfBranchesThatAreNone(t *testing.T) {
	zero, l, r := api.Digest{}, sumOf(1), sumOf(2)
	for name, load := range map[string][]byte{
		"both pages 0":             branchLoad(0, 0, 0, 0, zero, zero),
		"both pages 0, counts":     branchLoad(0, 0, 1, 1, zero, zero),
		"one page twice":           branchLoad(5, 5, 1, 1, l, r),
		"left is a slot":           branchLoad(1, 5, 1, 1, l, r),
		"right is a slot":          branchLoad(5, 1, 1, 1, l, r),
		"left at 4096":             branchLoad(4096, 5, 1, 1, l, r),
		"right at 4096":            branchLoad(5, 4096, 1, 1, l, r),
		"left at its highest":      branchLoad(1<<32-1, 5, 1, 1, l, r),
		"right at its highest":     branchLoad(5, 1<<32-1, 1, 1, l, r),
		"left beyond 16 bits":      branchLoad(1<<16+5, 6, 1, 1, l, r),
		"right beyond 24 bits":     branchLoad(5, 1<<24+6, 1, 1, l, r),
		"left without a count":     branchLoad(5, 6, 0, 2, l, r),
		"right without a count":    branchLoad(5, 6, 2, 0, l, r),
		"a count beside none":      branchLoad(5, 0, 2, 1, l, zero),
		"a count beside none left": branchLoad(0, 6, 1, 2, zero, r),
		"a sum beside none":        branchLoad(5, 0, 2, 0, l, r),
		"a sum beside none left":   branchLoad(0, 6, 0, 2, l, r),
		"one key":                  branchLoad(5, 0, 1, 0, l, zero),
		"one key right":            branchLoad(0, 6, 0, 1, zero, r),
		"4097 keys":                branchLoad(5, 6, 4096, 1, l, r),
		"4097 keys on one side":    branchLoad(5, 0, 4097, 0, l, zero),
		"counts that wrap round":   branchLoad(5, 6, 1<<32-1, 3, l, r),
		"counts beyond 31 bits":    branchLoad(5, 6, 1<<31, 1<<31+2, l, r),
		"a count beyond 24 bits":   branchLoad(5, 6, 1, 1<<24+1, l, r),
	} {
		wantNoNode(t, "P9.4: "+name, 2, load)
	}
}

func TestDecodeOfBranches(t *testing.T) {
	for _, n := range []api.Node{
		both(), onlyLeft(), onlyRight(),
		{Kind: 2, Left: 2, Right: 4095, LeftCount: 1, RightCount: 1},
		{Kind: 2, Left: 4095, Right: 2, LeftCount: 4095, RightCount: 1, RightSum: sumOf(4)},
		{Kind: 2, Left: 3, LeftCount: 4096},
		{Kind: 2, Right: 3, RightCount: 2},
	} {
		wantNode(t, "P9.4: a branch", 2, loadOf(n), n)
	}
}

// A load in which any one bit is turned is another node's, or none's.
func TestDecodeOfTurnedBits(t *testing.T) {
	for _, n := range []api.Node{both(), onlyLeft(), onlyRight()} {
		load := loadOf(n)
		for bit := range 8 * len(load) {
			turned := bytes.Clone(load)
			turned[bit/8] ^= 1 << (bit % 8)
			wantAsPlain(t, 2, turned)
			wantAsPlain(t, 1, turned)
		}
	}
}
