package tree_test

import (
	"slices"
	"strings"
	"testing"

	"ledger/api"
	"ledger/batch"
)

// entries is a map as the document means it.
type entries map[api.Key]string

// behind tells the map that a list of changes leaves.
func (m entries) behind(cs []api.Change) entries {
	behind := entries{}
	for k, v := range m {
		behind[k] = v
	}
	for _, c := range cs {
		if c.Del {
			delete(behind, c.Key)
		} else {
			behind[c.Key] = string(c.Val)
		}
	}
	return behind
}

// puts tells the list that makes the map out of nothing, in the keys' order.
func (m entries) puts() (cs []api.Change) {
	for k, v := range m {
		cs = append(cs, put(k, v))
	}
	slices.SortFunc(cs, func(a, b api.Change) int { return batch.Compare(a.Key, b.Key) })
	return cs
}

// costTo is P10.12, word for word, of two maps.
func (m entries) costTo(behind entries) int {
	differ, keys := map[string]int{}, map[string]int{}
	note := func(all map[string]int, k api.Key) {
		path := bitsOf(k)
		for bits := range 256 {
			all[path[:bits]]++
		}
	}
	cost := 0
	for k, v := range behind {
		note(keys, k)
		if was, had := m[k]; !had || was != v {
			note(differ, k)
			cost++
		}
	}
	for k := range m {
		if _, has := behind[k]; !has {
			note(differ, k)
		}
	}
	for row := range differ {
		if keys[row] >= 2 {
			cost++
		}
	}
	return cost
}

// effects tells how many changes of a list take effect.
func (m entries) effects(cs []api.Change) (n int) {
	for _, c := range cs {
		was, had := m[c.Key]
		if had == c.Del || !c.Del && was != string(c.Val) {
			n++
		}
	}
	return n
}

// rows asks that the subtree under a row is the one of the keys there, each with its value: P10.1 and P10.2, word for word. It tells the subtree's digest, and counts the pages that it meets.
func (r *rig) rows(page int, row string, m entries, met map[int]int) api.Digest {
	r.Helper()
	w, height := r.width(), 256-len(row)
	under := entries{}
	for k, v := range m {
		if strings.HasPrefix(bitsOf(k), row) {
			under[k] = v
		}
	}
	if len(under) == 0 {
		if page != 0 {
			r.Fatalf("%s: page %d under the row %q, want none", r.promise, page, row)
		}
		return emptySum(w, height)
	}
	met[page]++
	n := r.node(page)
	if len(under) == 1 {
		only := under.puts()[0]
		if n.Kind != 1 || n.Key != only.Key || string(n.Val) != string(only.Val) {
			r.Fatalf("%s: page %d under the row %q: %+v, want the leaf of %x", r.promise, page, row, n, only.Key)
		}
		return loneSum(w, only.Key, string(only.Val), height)
	}
	if n.Kind != 2 || n.LeftCount+n.RightCount != len(under) {
		r.Fatalf("%s: page %d under the row %q: %+v, want a branch of %d keys", r.promise, page, row, n, len(under))
	}
	left := r.rows(n.Left, row+"0", under, met)
	right := r.rows(n.Right, row+"1", under, met)
	r.sides(page, n, under, row, left, right)
	return pairSum(w, left, right)
}

// sides asks that a branch states of its children what they are.
func (r *rig) sides(page int, n api.Node, under entries, row string, left, right api.Digest) {
	r.Helper()
	lefts := 0
	for k := range under {
		if bitsOf(k)[len(row)] == '0' {
			lefts++
		}
	}
	if n.Left == 0 {
		left = api.Digest{}
	}
	if n.Right == 0 {
		right = api.Digest{}
	}
	if n.LeftCount != lefts || n.RightCount != len(under)-lefts || n.LeftSum != left || n.RightSum != right {
		r.Errorf("%s: page %d under the row %q: %+v, want %d and %d keys, %x and %x", r.promise, page, row, n, lefts, len(under)-lefts, left, right)
	}
}

// isMap asks that a tree is that of a map, page by page and by all that can be asked of it; it tells which pages it uses.
func (r *rig) isMap(root int, m entries) map[int]int {
	r.Helper()
	used := map[int]int{}
	sum := r.rows(root, "", m, used)
	r.tellsMap(root, m, sum)
	return used
}

// tellsMap asks Get, Sum and Count for what a map has.
func (r *rig) tellsMap(root int, m entries, sum api.Digest) {
	r.Helper()
	r.sums(root, sum)
	r.counts(root, len(m))
	for k, v := range m {
		r.gets(root, k, v)
		for _, bit := range []int{0, 1, 128, 254, 255} {
			if _, has := m[flipped(k, bit)]; !has {
				r.getsNot(root, flipped(k, bit), api.OK)
			}
		}
	}
}

// P10.1, P10.2: the trees of maps of no, one, two and more keys that share 0, 1, 254 and 255 bits, at each kind of width.
func TestTreesOfMaps(t *testing.T) {
	base := keyOf("0110100110010110")
	maps := []entries{
		{},
		{keyK: "x"},
		{base: ""},
		{keyK: "x", keyB: "y"},
		{base: "", flipped(base, 0): ""},
		{base: "a", flipped(base, 1): "b"},
		{base: "a", flipped(base, 254): "b"},
		{base: "a", flipped(base, 255): "b"},
		{keyK: "x", keyC: "z"},
		{base: "a", flipped(base, 0): "b", flipped(base, 1): "c", flipped(base, 254): "d", flipped(base, 255): "e"},
		{single(0): "0", single(1): "1", single(2): "2", single(3): "3", single(7): "7", single(8): "8", single(9): "9"},
	}
	for _, w := range []int{1, 2, 4, 31, 32} {
		for i, m := range maps {
			r := begun(t, "P10.1, P10.2", 1200, w)
			root, _ := r.asRead(0, m.puts()...)
			r.isMap(root, m)
			if cost := (entries{}).costTo(m); r.s.Staged() != cost {
				t.Errorf("P10.12: the map %d costs %d pages, want %d", i, r.s.Staged(), cost)
			}
		}
	}
}

// P10.2, R6: at width 1 a lone leaf that has the empty subtree's digest is there all the same.
func TestDigestsThatMeet(t *testing.T) {
	r := begun(t, "P10.2", 1200, 1)
	met := 0
	for i := range 400 {
		m := entries{keyOf(strings.Repeat("1", i%7)): string(text(i, 3))}
		root, _ := r.asRead(0, m.puts()...)
		r.isMap(root, m)
		if root := r.node(root); loneSum(1, root.Key, string(root.Val), 256) == emptySum(1, 256) {
			met++
		}
		r.asRead(root, del(m.puts()[0].Key))
	}
	if met == 0 {
		t.Errorf("P10.2: no leaf has the empty root's digest: the rows say too little")
	}
}
