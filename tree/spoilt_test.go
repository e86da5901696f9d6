package tree_test

import (
	"fmt"
	"testing"

	"ledger/api"
	"ledger/disk"
	"ledger/tree"
)

// grown makes a tree of some keys on the disk, and tells its root and its map.
func grown(t *testing.T, promise string, width int) (*rig, int, entries) {
	t.Helper()
	r := begun(t, promise, 600, width)
	m := entries{keyOf("0000"): "a", keyOf("0001"): "b", keyOf("0010"): "c", keyOf("01"): "d", keyOf("1"): "e", keyOf("111111"): "f"}
	root, _ := r.asRead(0, m.puts()...)
	r.flush()
	return r, root, m
}

// reopened makes a store with no room over another disk that has the same image.
func (r *rig) reopened(room int) *rig {
	r.Helper()
	d, e := disk.Load(r.d.Image())
	if e != api.OK {
		r.Fatal(e)
	}
	return over(r.T, r.promise, d, room)
}

// onPath tells the pages of a key's path.
func (r *rig) onPath(root int, k api.Key) map[int]int {
	r.Helper()
	met := map[int]int{}
	page := root
	for _, bit := range bitsOf(k) {
		met[page]++
		n := r.node(page)
		page = n.Left
		if bit == '1' {
			page = n.Right
		}
		if page == 0 || n.Kind == api.KindLeaf {
			break
		}
	}
	return met
}

// P10.3, P10.4: a page that is spoilt on the disk is met by those alone whose paths go over it.
func TestSpoiltPages(t *testing.T) {
	whole, root, m := grown(t, "P10.4", 4)
	asked := []api.Key{keyOf("00011"), keyOf("011"), keyOf("101"), keyOf("1111"), keyC}
	for k := range m {
		asked = append(asked, k)
	}
	for page := 2; page < whole.s.Next(); page++ {
		r := whole.reopened(0)
		r.promise = fmt.Sprintf("P10.4: page %d is spoilt", page)
		r.d.Flip(page, 8*page%2048, 1)
		for _, k := range asked {
			met := whole.onPath(root, k)[page] > 0
			val, found, e := tree.Get(r.s, root, k)
			if met && (val != nil || found || e != api.ErrCorrupt) || !met && (e != api.OK || string(val) != m[k]) {
				t.Errorf("%s: Get(%x) = %q, %t, %v", r.promise, k, val, found, e)
			}
			r.asReadGet(root, k)
			for _, c := range []api.Change{put(k, "new"), del(k), put(k, m[k])} {
				_, e := r.asRead(root, c)
				if (e == api.ErrCorrupt) != met {
					t.Errorf("%s: Update of %x: %v", r.promise, k, e)
				}
				r.asRead(root, c, del(single(254)), put(keyOf("0101"), "d"))
				r.s.Rewind(whole.s.Next())
			}
		}
		if sum, e := tree.Sum(r.s, root); (e == api.ErrCorrupt) != (page == root) {
			t.Errorf("%s: Sum: %x, %v", r.promise, sum, e)
		}
		if keys, e := tree.Count(r.s, root); (e == api.ErrCorrupt) != (page == root) {
			t.Errorf("%s: Count: %d, %v", r.promise, keys, e)
		}
	}
}

// P10.10: the neighbour of what goes need not be looked at: it moves up though its page is spoilt.
func TestSpoiltNeighbourMovesUp(t *testing.T) {
	r := begun(t, "P10.10", 40, 4)
	root := r.updates(0, 6, 5, put(keyK, "k"), put(keyOf("01"), "1"), put(keyB, "b"))
	r.flush()
	r = r.reopened(0)
	k := r.leafAt(root, keyK)
	r.d.Flip(k, 100, 1)
	page := r.updates(root, 7, 1, del(keyOf("01")))
	r.holds(page, api.Node{
		Kind: 2, Left: k, Right: r.leafAt(root, keyB), LeftCount: 1, RightCount: 1,
		LeftSum: loneSum(4, keyK, "k", 255), RightSum: loneSum(4, keyB, "b", 255),
	})
	r.updates(page, k, 0, del(keyB))
	r.allRefuse(k, api.ErrCorrupt, put(keyK, "k"))
	r.refuses(root, api.ErrCorrupt, del(keyOf("01")), put(keyK, "k"))
}

// R6: the cache's room is not seen, nor whether pages are staged or on the disk.
func TestRoomIsNotSeen(t *testing.T) {
	whole, root, m := grown(t, "R6", 32)
	rigs := []*rig{whole}
	for _, room := range []int{0, 1, 2, 5, 4096} {
		rigs = append(rigs, whole.reopened(room))
	}
	lists := [][]api.Change{{put(keyC, "c")}, {del(keyOf("0001")), put(keyOf("1"), "new")}, {del(keyOf("01")), del(keyC)}, m.puts()}
	for i, cs := range lists {
		behind, _ := whole.readAgain(root, cs)
		for _, r := range rigs {
			got, e := tree.Update(r.s, root, cs)
			if got != behind || e != api.OK {
				t.Errorf("R6: list %d: %d, %v, want %d", i, got, e, behind)
			}
			if i%2 == 1 {
				r.flush()
			}
		}
		m, root = m.behind(cs), behind
		for _, r := range rigs {
			r.isMap(root, m)
		}
	}
	for _, r := range rigs[1:] {
		r.flush()
	}
	whole.flush()
	for _, r := range rigs[1:] {
		if string(r.d.Image()) != string(whole.d.Image()) {
			t.Errorf("R8: the images differ")
		}
	}
}

// readAgain tells what a list leaves by the plain reading, with nothing staged.
func (r *rig) readAgain(root int, cs []api.Change) (int, []api.Node) {
	r.Helper()
	x := r.readList(root, cs)
	page := x.build("").page
	if x.broken {
		r.Fatalf("%s: the tree is broken", r.promise)
	}
	return page, x.staged
}
