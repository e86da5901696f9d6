package walk_test

import (
	"testing"

	"ledger/api"
)

// P11.9, P11.10: every rank and every number of a map, and the numbers around it.
func TestRanksAndNumbers(t *testing.T) {
	base := keyOf("0110100110010110")
	for _, m := range []entries{
		{keyA: "x"},
		{keyZ: ""},
		{keyA: "a", keyB: "b"},
		{base: "", flipped(base, 255): "y"},
		{base: "a", flipped(base, 0): "b", flipped(base, 1): "c", flipped(base, 254): "d", flipped(base, 255): "e", keyZ: "z", keyA: "0"},
	} {
		r := begun(t, "P11.9, P11.10", 1500)
		root := r.update(0, m.puts()...)
		r.quiet(func() {
			for i, k := range m.rising() {
				r.has(root, i, k, m[k])
				r.ranks(root, k, i, api.OK)
				r.asReadAt(root, i)
				for _, near := range []api.Key{moved(k, -1), k, moved(k, 1), flipped(k, 2), flipped(k, 200), keyA, keyB, keyZ} {
					r.asReadRank(root, near)
					r.ranks(root, near, len(m)-len(m.between(near, keyZ)), api.OK)
				}
			}
			for _, i := range []int{len(m), len(m) + 1, 4096, highest} {
				r.hasNot(root, i, api.ErrRange)
			}
			for _, i := range []int{-1, -len(m), lowest} {
				r.hasNot(root, i, api.ErrRange)
			}
		})
	}
}

// P11.9: a key's path may end where there is no page, at a leaf of a lower key, of a higher one, and of its own.
func TestRankWherePathsEnd(t *testing.T) {
	r := begun(t, "P11.9", 900)
	m := entries{keyOf("0100"): "a", keyOf("01001"): "b", keyOf("111"): "c"}
	root := r.update(0, m.puts()...)
	for row, want := range map[string]int{
		"": 0, "00": 0, "001111": 0, // no page beside the way down
		"0100": 0, "01000001": 1, "01001": 1, "010011": 2, "0101": 2, "011": 2,
		"1": 2, "110111": 2, "111": 2, "1111": 3,
	} {
		r.ranks(root, keyOf(row), want, api.OK)
		r.asReadRank(root, keyOf(row))
	}
	r.ranks(0, keyA, 0, api.OK)
	r.ranks(0, keyZ, 0, api.OK)
}

// P11.9, P11.10: what a branch states of a child that is not on the way is believed.
func TestCountsAreBelieved(t *testing.T) {
	r := begun(t, "P11.9", 60)
	b, astray := r.leaf(keyB, "b"), r.leaf(keyB, "c")
	none := r.forge(api.KindRecord, nil)
	for _, left := range []int{none, astray, r.s.Next() + 7, 4095} {
		root := r.branch(left, b, 4095, 1)
		r.ranks(root, keyB, 4095, api.OK)
		r.ranks(root, keyZ, 4096, api.OK)
		r.ranks(root, keyA, 0, api.ErrCorrupt)
		r.hasNot(root, 0, api.ErrCorrupt)
		r.hasNot(root, 4094, api.ErrCorrupt)
		r.has(root, 4095, keyB, "b")
		r.hasNot(root, 4096, api.ErrRange)
	}
	a := r.leaf(keyA, "a")
	root := r.branch(a, none, 1, 77)
	r.ranks(root, keyA, 0, api.OK)
	r.ranks(root, keyC, 1, api.OK)
	r.has(root, 0, keyA, "a")
	r.ranks(root, keyB, 0, api.ErrCorrupt)
	r.hasNot(root, 1, api.ErrCorrupt)
	r.hasNot(root, 77, api.ErrCorrupt)
	r.hasNot(root, 78, api.ErrRange)
}
