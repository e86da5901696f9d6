package tree_test

import (
	"bytes"
	"slices"
	"testing"

	"ledger/api"
	"ledger/tree"
)

// scribble writes over all bytes of b and of the room behind it.
func scribble(b []byte) {
	b = b[:cap(b)]
	for i := range b {
		b[i] ^= 0xFF
	}
}

// P10.6, R5: a value is new memory each time, of a staged page and of one on the disk.
func TestValuesAreNewMemory(t *testing.T) {
	for _, n := range []int{0, 1, 40, 128} {
		r := begun(t, "P10.6", 16, 4)
		val := text(n, n)
		root := r.updates(0, 4, 3, put(keyK, string(val)), put(keyB, "b"))
		for range 2 {
			for _, page := range []int{root, 2} {
				first, _, _ := tree.Get(r.s, page, keyK)
				second, _, _ := tree.Get(r.s, page, keyK)
				scribble(first)
				_ = append(first, text(3, 300)...)
				if !bytes.Equal(second, val) {
					t.Errorf("P10.6: two answers of %d bytes share memory", n)
				}
				scribble(second)
				r.isMap(root, entries{keyK: string(val), keyB: "b"})
			}
			r.flush()
		}
	}
}

// roomy tells a list of changes in an order that is not the keys', each value and the list itself with more behind it, and all that memory.
func roomy() (cs []api.Change, vals [][]byte) {
	keys := []api.Key{keyB, keyOf("01"), keyK, keyC, keyOf("111"), keyOf("0001")}
	list := make([]api.Change, 0, 20)
	for i, k := range keys {
		val := text(i, 60)
		vals = append(vals, val)
		list = append(list, api.Change{Key: k, Del: i == 3 || i == 4, Val: val[:10*i]})
	}
	for i := range 5 {
		list = append(list, api.Change{Key: single(20 + i), Val: []byte("spare")})
	}
	return list[:len(keys)], vals
}

// R5: a list that is handed in is left as it was, with the room behind it, and not kept.
func TestListsAreLeft(t *testing.T) {
	r := begun(t, "R5", 40, 4)
	before, _ := r.asRead(0, put(keyK, "old"), put(keyOf("111"), "old"))
	cs, vals := roomy()
	want := entries{keyK: "old", keyOf("111"): "old"}.behind(cs)
	if _, e := tree.Cost(r.s, before, cs); e != api.OK {
		t.Fatal(e)
	}
	root, e := tree.Update(r.s, before, cs)
	if e != api.OK {
		t.Fatal(e)
	}
	was, wasVals := roomy()
	for i := range 11 {
		a, b := cs[:11][i], was[:11][i]
		if a.Key != b.Key || a.Del != b.Del || !bytes.Equal(a.Val, b.Val) {
			t.Errorf("R5: the change %d is %+v, was %+v", i, a, b)
		}
	}
	for i := range vals {
		if !bytes.Equal(vals[i], wasVals[i]) {
			t.Errorf("R5: the value %d was written into", i)
		}
		scribble(vals[i])
	}
	clear(cs[:11])
	r.isMap(root, want)
	r.flush()
	r.isMap(root, want)
}

// P10.9: the order of a list says nothing.
func TestOrderOfTheListSaysNothing(t *testing.T) {
	cs, _ := roomy()
	var want []string
	for i := range 6 {
		r := begun(t, "P10.9", 40, 4)
		before, _ := r.asRead(0, put(keyK, "old"), put(keyOf("111"), "old"))
		turned := slices.Concat(cs[i:], cs[:i])
		if i%2 == 1 {
			slices.Reverse(turned)
		}
		r.asRead(before, turned...)
		if got := r.pages(r.s.Next()); i > 0 && !slices.Equal(got, want) {
			t.Errorf("P10.9: another order, other pages")
		}
		want = r.pages(r.s.Next())
	}
}

// P10.5: nothing is staged by a call that only asks; nor is anything written, flushed or synced by any.
func TestAskingStagesNothing(t *testing.T) {
	r := begun(t, "P10.5", 600, 4)
	root, _ := r.asRead(0, put(keyK, "k"), put(keyB, "b"), put(keyOf("01"), "d"))
	r.flush()
	root, _ = r.asRead(root, put(keyC, "c"))
	r.unstaged(func() {
		for _, page := range []int{0, 2, root} {
			for _, k := range []api.Key{keyK, keyC, keyB, single(9)} {
				tree.Get(r.s, page, k)
				tree.Cost(r.s, page, []api.Change{put(k, "new")})
				tree.Cost(r.s, page, []api.Change{del(k), put(single(77), "new")})
			}
			tree.Sum(r.s, page)
			tree.Count(r.s, page)
			tree.Cost(r.s, page, nil)
		}
	})
	r.unwritten(func() { tree.Update(r.s, root, []api.Change{put(keyC, "new"), del(keyB)}) })
	// Power that is to go at the next write or sync does not go.
	r.d.Arm(1)
	r.asRead(root, put(keyC, "other"), del(keyB))
	r.asReadGet(root, keyC)
	if !r.d.Power() {
		t.Errorf("P10.5: something was written or synced")
	}
}
