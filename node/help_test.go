package node_test

import (
	"bytes"
	"crypto/sha256"
	"encoding/binary"
	"math/big"
	"math/rand/v2"
	"slices"
	"testing"

	"ledger/api"
	"ledger/node"
)

const (
	highest = int(^uint(0) >> 1)
	lowest  = -highest - 1
)

// The widths that the document names, and what they count as.
var widths = []struct{ asked, counts int }{
	{lowest, 0}, {-1, 0}, {0, 0}, {1, 1}, {2, 2}, {4, 4}, {27, 27}, {31, 31}, {32, 32}, {33, 32}, {40, 32}, {300, 32}, {highest, 32},
}

// The heights that the document names, and what they count as.
var heights = []struct{ asked, counts int }{
	{lowest, 0}, {-5, 0}, {-1, 0}, {0, 0}, {1, 1}, {2, 2}, {7, 7}, {8, 8}, {127, 127}, {254, 254}, {255, 255}, {256, 256}, {257, 256}, {300, 256}, {highest, 256},
}

// text makes n bytes, none of them zero, the same ones for the same n.
func text(n int) []byte {
	r := rand.NewPCG(uint64(n), 9)
	b := make([]byte, n)
	for i := range b {
		b[i] = byte(1 + r.Uint64()%255)
	}
	return b
}

// sumOf tells a digest without a zero byte, another one for each seed.
func sumOf(seed int) api.Digest {
	return api.Digest(text(32 + seed)[seed:])
}

// single tells the key with one bit set.
func single(bit int) api.Key {
	var k api.Key
	k[bit/8] = 128 >> (bit % 8)
	return k
}

// right tells whether the way to k goes right below the height h + 1, by the document's words on bits.
func right(k api.Key, h int) bool {
	return new(big.Int).SetBytes(k[:]).Bit(h) == 1
}

// cut tells the first w bytes of the library's own hash of a text.
func cut(w int, parts ...[]byte) api.Digest {
	sum := sha256.Sum256(slices.Concat(parts...))
	return short(w, sum)
}

// short tells the first w bytes of a digest, zeros behind them.
func short(w int, d api.Digest) api.Digest {
	clear(d[w:])
	return d
}

// pair tells the digest of two subtrees beside one another.
func pair(w int, l, r api.Digest) api.Digest {
	return cut(w, []byte{1}, l[:w], r[:w])
}

// emptiesOf keeps what empties has worked out, a list a width.
var emptiesOf [33][]api.Digest

// empties tells the digests of the empty subtrees of the heights 0 to 256.
func empties(w int) []api.Digest {
	if emptiesOf[w] == nil {
		all := []api.Digest{cut(w, []byte{2})}
		for len(all) <= 256 {
			last := all[len(all)-1]
			all = append(all, pair(w, last, last))
		}
		emptiesOf[w] = all
	}
	return emptiesOf[w]
}

// climbed is P9.9, word for word, for a width and heights that count as they are.
func climbed(w int, k api.Key, from int, d api.Digest, to int) api.Digest {
	if from >= to {
		return short(w, d)
	}
	empty := empties(w)
	for h := from; h <= to-1; h++ {
		if right(k, h) {
			d = pair(w, empty[h], d)
		} else {
			d = pair(w, d, empty[h])
		}
	}
	return d
}

// isLeaf is P9.1, word for word.
func isLeaf(n api.Node) bool {
	return n.Kind == 1 && len(n.Val) <= 128 &&
		n.Left == 0 && n.Right == 0 && n.LeftCount == 0 && n.RightCount == 0 &&
		n.LeftSum == api.Digest{} && n.RightSum == api.Digest{}
}

// isBranch is P9.2, word for word; the counts are added up as numbers without an end.
func isBranch(n api.Node) bool {
	if n.Kind != 2 || n.Key != (api.Key{}) || len(n.Val) != 0 {
		return false
	}
	for _, page := range []int{n.Left, n.Right} {
		if page != 0 && (page < 2 || page > 4095) {
			return false
		}
	}
	if n.Left == 0 && n.Right == 0 || n.Left == n.Right {
		return false
	}
	if (n.LeftCount == 0) != (n.Left == 0) || (n.RightCount == 0) != (n.Right == 0) {
		return false
	}
	if n.LeftCount < 0 || n.RightCount < 0 {
		return false
	}
	keys := new(big.Int).Add(big.NewInt(int64(n.LeftCount)), big.NewInt(int64(n.RightCount)))
	if keys.Cmp(big.NewInt(2)) < 0 || keys.Cmp(big.NewInt(4096)) > 0 {
		return false
	}
	return (n.Left != 0 || n.LeftSum == api.Digest{}) && (n.Right != 0 || n.RightSum == api.Digest{})
}

// branchLoad lays a branch's fields out, whatever they are.
func branchLoad(left, right, leftCount, rightCount uint32, leftSum, rightSum api.Digest) []byte {
	var b []byte
	for _, n := range []uint32{left, right, leftCount, rightCount} {
		b = binary.LittleEndian.AppendUint32(b, n)
	}
	return slices.Concat(b, leftSum[:], rightSum[:])
}

// loadOf tells the load of a leaf or a branch.
func loadOf(n api.Node) []byte {
	if n.Kind == 1 {
		return slices.Concat(n.Key[:], n.Val)
	}
	return branchLoad(uint32(n.Left), uint32(n.Right), uint32(n.LeftCount), uint32(n.RightCount), n.LeftSum, n.RightSum)
}

// alike tells whether two nodes are the same; a nil value and an empty one mean the same.
func alike(a, b api.Node) bool {
	return a.Kind == b.Kind && a.Left == b.Left && a.Right == b.Right &&
		a.LeftCount == b.LeftCount && a.RightCount == b.RightCount &&
		a.LeftSum == b.LeftSum && a.RightSum == b.RightSum &&
		a.Key == b.Key && bytes.Equal(a.Val, b.Val)
}

// wantLoad asks for the load of a node, and that it reads back as that node.
func wantLoad(t *testing.T, name string, n api.Node, want []byte) {
	t.Helper()
	load, e := node.Encode(n)
	if e != api.OK || !bytes.Equal(load, want) {
		t.Errorf("%s: Encode(%+v) = %v, %d, want %v", name, n, load, e, want)
	}
	wantNode(t, name, n.Kind, want, n)
}

// wantNode asks for the node that a load spells.
func wantNode(t *testing.T, name string, kind int, load []byte, want api.Node) {
	t.Helper()
	n, e := node.Decode(kind, load)
	if e != api.OK || !alike(n, want) {
		t.Errorf("%s: Decode(%d, %d bytes) = %+v, %d, want %+v", name, kind, len(load), n, e, want)
	}
}

// wantNoLoad asks that a node is refused.
func wantNoLoad(t *testing.T, name string, n api.Node) {
	t.Helper()
	if load, e := node.Encode(n); load != nil || e != api.ErrNode {
		t.Errorf("%s: Encode(%+v) = %v, %d, want nil, %d", name, n, load, e, api.ErrNode)
	}
}

// wantNoNode asks that a load is refused.
func wantNoNode(t *testing.T, name string, kind int, load []byte) {
	t.Helper()
	n, e := node.Decode(kind, load)
	if e != api.ErrNode || !alike(n, api.Node{}) || n.Val != nil {
		t.Errorf("%s: Decode(%d, %d bytes) = %+v, %d, want zeros, %d", name, kind, len(load), n, e, api.ErrNode)
	}
}

// wantSum asks that two digests are the same.
func wantSum(t *testing.T, name string, got, want api.Digest) {
	t.Helper()
	if got != want {
		t.Errorf("%s: %x, want %x", name, got, want)
	}
}

// wantText asks for a text's bytes.
func wantText(t *testing.T, name string, got, want []byte) {
	t.Helper()
	if !bytes.Equal(got, want) {
		t.Errorf("%s: %v, want %v", name, got, want)
	}
}
