package node_test

import (
	"encoding/binary"
	"math/rand/v2"
	"testing"

	"ledger/api"
)

// wantEncoded asks that Encode does with a node what P9.1 to P9.3 say, word for word, and tells whether it is one.
func wantEncoded(t *testing.T, n api.Node) bool {
	t.Helper()
	if isLeaf(n) || isBranch(n) {
		wantLoad(t, "P9.3", n, loadOf(n))
		return true
	}
	wantNoLoad(t, "P9.3", n)
	return false
}

// wantAsPlain asks that Decode does with a load what P9.4 says: the fields are those at their places, if they make a node.
func wantAsPlain(t *testing.T, kind int, load []byte) bool {
	t.Helper()
	var n api.Node
	switch {
	case kind == 1 && len(load) >= 32:
		n = api.Node{Kind: 1, Key: api.Key(load[:32]), Val: load[32:]}
	case kind == 2 && len(load) == 80:
		at := func(place int) int { return int(binary.LittleEndian.Uint32(load[place:])) }
		n = api.Node{
			Kind: 2, Left: at(0), Right: at(4), LeftCount: at(8), RightCount: at(12),
			LeftSum: api.Digest(load[16:48]), RightSum: api.Digest(load[48:]),
		}
	}
	if isLeaf(n) || isBranch(n) {
		wantLoad(t, "P9.4: the way back", n, load)
		return true
	}
	wantNoNode(t, "P9.4", kind, load)
	return false
}

// Every way to put the edges of pages, counts and digests together.
func TestEncodeOfAllEdges(t *testing.T) {
	pages := []int{lowest, -5, 0, 1, 2, 5, 4095, 4096, highest}
	counts := []int{lowest, -1, 0, 1, 2, 4095, 4096, 4097, highest}
	sums := []api.Digest{{}, sumOf(1)}
	nodes := 0
	for _, left := range pages {
		for _, right := range pages {
			for _, leftCount := range counts {
				for _, rightCount := range counts {
					for i := range 4 {
						n := api.Node{
							Kind: 2, Left: left, Right: right, LeftCount: leftCount, RightCount: rightCount,
							LeftSum: sums[i/2], RightSum: sums[i%2],
						}
						if wantEncoded(t, n) {
							nodes++
						}
					}
				}
			}
		}
	}
	// Of two children 6 ordered pairs of pages, 6 of counts and 4 of digests; of one child 3 pages on 2 sides, 3 counts, 2 digests.
	if want := 6*6*4 + 3*2*3*2; nodes != want {
		t.Errorf("P9.2: %d branches, want %d", nodes, want)
	}
}

// pick tells one of a list.
func pick[T any](r *rand.Rand, list ...T) T { return list[r.IntN(len(list))] }

// anyNode tells a node whose fields are often right and seldom not.
func anyNode(r *rand.Rand) api.Node {
	page := func() int { return pick(r, 0, 2, 3, 4095, 2+r.IntN(4094), r.IntN(8192)-2048) }
	count := func(page int) int {
		if page == 0 && r.IntN(8) > 0 {
			return 0
		}
		return pick(r, 0, 1, 1, 2, 2047, 2048, 1+r.IntN(4095), r.IntN(5000)-300)
	}
	sum := func(page int) api.Digest {
		if page == 0 && r.IntN(8) > 0 {
			return api.Digest{}
		}
		return sumOf(r.IntN(100))
	}
	n := api.Node{Kind: 2, Left: page(), Right: page()}
	n.LeftCount, n.RightCount = count(n.Left), count(n.Right)
	n.LeftSum, n.RightSum = sum(n.Left), sum(n.Right)
	if r.IntN(3) == 0 {
		n = api.Node{Kind: 1, Key: api.Key(sumOf(r.IntN(100))), Val: text(r.IntN(140))}
	}
	switch r.IntN(20) {
	case 0:
		n.Kind = r.IntN(5) - 1
	case 1:
		n.Val = text(r.IntN(3))
	case 2:
		n.Key = single(r.IntN(256))
	case 3:
		n.RightCount = r.IntN(2)
	}
	return n
}

func TestEncodeOfAnyNode(t *testing.T) {
	r := rand.New(rand.NewPCG(9, 9))
	nodes := 0
	for range 20000 {
		if wantEncoded(t, anyNode(r)) {
			nodes++
		}
	}
	if nodes < 5000 || nodes > 15000 {
		t.Errorf("%d of 20000 are nodes: the rows say too little", nodes)
	}
}

func TestDecodeOfAnyLoad(t *testing.T) {
	r := rand.New(rand.NewPCG(10, 9))
	nodes := 0
	for range 20000 {
		n := anyNode(r)
		if n.Kind != 1 && n.Kind != 2 {
			n.Kind = 2
		}
		load := loadOf(n)
		if r.IntN(4) == 0 {
			load[r.IntN(len(load))] ^= byte(1 << r.IntN(8))
		}
		if wantAsPlain(t, pick(r, n.Kind, n.Kind, n.Kind, n.Kind, r.IntN(5)-1), load) {
			nodes++
		}
	}
	if nodes < 5000 || nodes > 15000 {
		t.Errorf("%d of 20000 are nodes: the rows say too little", nodes)
	}
}
