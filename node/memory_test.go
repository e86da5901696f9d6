package node_test

import (
	"bytes"
	"slices"
	"testing"

	"ledger/api"
	"ledger/node"
)

// roomy tells the same bytes cut out of a longer list, and that list.
func roomy(b []byte) (cut, whole []byte) {
	whole = slices.Concat(b, text(300))
	return whole[:len(b)], whole
}

// overwrite turns every bit of b, of the spare room behind it, and of what an append lays there.
func overwrite(b []byte) {
	b = append(b, 1, 2, 3)
	b = b[:cap(b)]
	for i := range b {
		b[i] ^= 255
	}
}

// wantNew asks of a call on a list that it leaves the list and the room behind it, keeps nothing of it, and answers new memory each time.
func wantNew(t *testing.T, name string, arg []byte, call func([]byte) []byte) {
	t.Helper()
	given, whole := roomy(arg)
	before := bytes.Clone(whole)
	want := bytes.Clone(call(arg))
	first, second := call(given), call(given)
	wantText(t, name+": with room behind the argument", first, want)
	wantText(t, name+": the argument", whole, before)
	overwrite(first[:0])
	overwrite(first)
	wantText(t, name+": the argument, behind writing into the answer", whole, before)
	wantText(t, name+": the other answer", second, want)
	overwrite(whole[:0])
	wantText(t, name+": the answer, behind writing into the argument", second, want)
	wantText(t, name+": once more", call(arg), want)
}

func TestEncodeAnswersNewMemory(t *testing.T) {
	for _, n := range []int{0, 1, 96, 128, 129} {
		wantNew(t, "P9.3: Encode of a leaf", text(n), func(val []byte) []byte {
			load, _ := node.Encode(api.Node{Kind: 1, Key: single(3), Val: val})
			return load
		})
	}
	wantNew(t, "P9.3: Encode of a branch", nil, func(val []byte) []byte {
		n := both()
		n.Val = val
		load, _ := node.Encode(n)
		return load
	})
}

func TestDecodeAnswersNewMemory(t *testing.T) {
	for _, n := range []int{31, 32, 33, 80, 128, 160, 161} {
		wantNew(t, "P9.4: Decode of a leaf", text(n), func(load []byte) []byte {
			leaf, _ := node.Decode(1, load)
			return leaf.Val
		})
	}
	for _, arg := range [][]byte{loadOf(both()), make([]byte, 80), text(79), nil} {
		given, whole := roomy(arg)
		before := bytes.Clone(whole)
		n, e := node.Decode(2, given)
		wantText(t, "P9.4: a branch's load", whole, before)
		overwrite(whole[:0])
		if m, f := node.Decode(2, arg); !alike(n, m) || e != f {
			t.Errorf("P9.4: Decode of a branch keeps its load: %+v, %+v", n, m)
		}
	}
}

func TestTextsAreNewMemory(t *testing.T) {
	for _, n := range []int{0, 1, 128, 300} {
		wantNew(t, "P9.5: LeafText", text(n), func(val []byte) []byte { return node.LeafText(single(3), val) })
		wantNew(t, "P9.7: Leaf", text(n), func(val []byte) []byte {
			d := node.Leaf(32, single(3), val)
			return d[:]
		})
	}
	for _, w := range []int{0, 1, 32} {
		wantNew(t, "P9.5: BranchText", nil, func([]byte) []byte { return node.BranchText(w, sumOf(1), sumOf(2)) })
	}
}

// A nil list and an empty one mean the same.
func TestNilAndEmptyAreAlike(t *testing.T) {
	k := single(3)
	for _, none := range [][]byte{nil, {}} {
		wantLoad(t, "P9.1: no value", api.Node{Kind: 1, Key: k, Val: none}, k[:])
		for kind := -1; kind < 4; kind++ {
			wantNoNode(t, "P9.4: no load", kind, none)
		}
		wantText(t, "P9.5: no value", node.LeafText(k, none), append([]byte{0}, k[:]...))
		wantSum(t, "P9.7: no value", node.Leaf(32, k, none), cut(32, []byte{0}, k[:]))
	}
}
