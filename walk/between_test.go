package walk_test

import (
	"fmt"
	"testing"

	"ledger/api"
)

// P11.7: leaves and none at the root: every pair.
func TestBetweenLeaves(t *testing.T) {
	r := begun(t, "P11.7", 40)
	a, again, other := r.leaf(keyA, "a"), r.leaf(keyA, "a"), r.leaf(keyA, "b")
	empty, none := r.leaf(keyA, ""), 0
	c, b := r.leaf(keyC, "c"), r.leaf(keyB, "b")
	for _, x := range []struct {
		a, b, loads int
		want        []api.Change
	}{
		{none, none, 0, nil}, {a, a, 0, nil}, {none, a, 1, []api.Change{put(keyA, "a")}}, {a, none, 1, []api.Change{del(keyA)}},
		{a, again, 2, nil}, {again, a, 2, nil}, {a, other, 2, []api.Change{put(keyA, "b")}}, {other, a, 2, []api.Change{put(keyA, "a")}},
		{a, empty, 2, []api.Change{put(keyA, "")}}, {empty, a, 2, []api.Change{put(keyA, "a")}}, {none, empty, 1, []api.Change{put(keyA, "")}}, {empty, none, 1, []api.Change{del(keyA)}},
		{a, c, 2, []api.Change{del(keyA), put(keyC, "c")}}, {c, a, 2, []api.Change{put(keyA, "a"), del(keyC)}},
		{c, b, 2, []api.Change{del(keyC), put(keyB, "b")}}, {b, c, 2, []api.Change{put(keyC, "c"), del(keyB)}},
	} {
		r.quiet(func() { r.differsBy(x.a, x.b, x.loads, x.want...) })
		r.asReadBetween(x.a, x.b)
	}
}

// P11.8: a leaf of one tree beside a branch of the other: it stands on its own path, and is not looked at again.
func TestBetweenLeafAndBranch(t *testing.T) {
	base := keyOf("0110100110010110")
	for _, bit := range []int{0, 1, 100, 254, 255} {
		r := begun(t, fmt.Sprintf("P11.8: bit %d", bit), 900)
		one := r.update(0, put(base, "v"))
		two := r.update(one, put(flipped(base, bit), "w"))
		// The root's leaf, all branches down to the place where they part, the other leaf; its own leaf meets itself.
		r.differsBy(one, two, bit+3, put(flipped(base, bit), "w"))
		r.differsBy(two, one, bit+3, del(flipped(base, bit)))
		// The same leaf on another page: it is looked at, and is no change.
		twin := r.leaf(base, "v")
		r.differsBy(twin, two, bit+4, put(flipped(base, bit), "w"))
		r.differsBy(two, twin, bit+4, del(flipped(base, bit)))
		// Another value.
		other := r.leaf(base, "x")
		want := []api.Change{put(base, "v"), put(flipped(base, bit), "w")}
		back := []api.Change{put(base, "x"), del(flipped(base, bit))}
		if bitsOf(flipped(base, bit)) < bitsOf(base) {
			want[0], want[1] = want[1], want[0]
			back[0], back[1] = back[1], back[0]
		}
		r.differsBy(other, two, bit+4, want...)
		r.differsBy(two, other, bit+4, back...)
		r.differsBy(0, two, bit+3, entries{base: "v", flipped(base, bit): "w"}.puts()...)
	}
}

// P11.8: leaves that keep their pages and move, up and down, are not looked at twice.
func TestBetweenMovedLeaves(t *testing.T) {
	r := begun(t, "P11.8", 3000)
	base := keyOf("0110100110010110")
	near, far := flipped(base, 250), flipped(base, 1)
	root := r.update(0, put(base, "b"), put(near, "n"), put(far, "f"))
	for _, cs := range [][]api.Change{
		{del(near)}, {del(near), del(far)}, {del(far)}, {del(base)}, {put(flipped(base, 255), "x")}, {put(flipped(near, 255), "x"), del(base)},
	} {
		behind := r.update(root, cs...)
		m := entries{base: "b", near: "n", far: "f"}
		x, _ := r.asReadBetween(root, behind)
		r.once(x)
		r.differs(root, behind, api.OK, m.to(m.behind(cs))...)
		x, _ = r.asReadBetween(behind, root)
		r.once(x)
		r.differs(behind, root, api.OK, m.behind(cs).to(m)...)
	}
}

// once asks that no page was looked at twice.
func (r *rig) once(x *reading) {
	r.Helper()
	seen := map[int]int{}
	for _, page := range x.looked {
		if seen[page]++; seen[page] == 2 {
			r.Errorf("%s: page %d is looked at twice", r.promise, page)
		}
	}
}

// P11.8: the bound of 514 pages a change is reached, and by many changes it is kept.
func TestBetweenBound(t *testing.T) {
	r := begun(t, "P11.8", 4096)
	root := r.update(0, put(keyA, "a"), put(keyC, "c"))
	r.differsBy(root, r.update(root, put(keyA, "new")), 514, put(keyA, "new"))
	r.differsBy(r.update(root, put(keyC, "new")), root, 514, put(keyC, "c"))
	both := r.update(root, put(keyA, "x"), put(keyC, "y"))
	r.differsBy(root, both, 516, put(keyA, "x"), put(keyC, "y"))
	// One change in a wide tree: the pages of one path on each side.
	w, wide, m := wide(t, "P11.8", 1500)
	for i, k := range m.rising() {
		if i%100 == 0 {
			next := w.s.Next()
			behind := w.update(wide, put(k, "new"))
			w.differsBy(wide, behind, 2*(w.s.Next()-next), put(k, "new"))
		}
	}
}

// P11.8: at a place where both have the same page nothing is asked, whatever each branch says of it.
func TestBetweenSamePageIsNotAsked(t *testing.T) {
	r := begun(t, "P11.8", 40)
	none := r.forge(api.KindRecord, nil)
	b, c := r.leaf(keyB, "b"), r.leaf(keyB, "c")
	one, two := r.branch(none, b, 2, 1), r.branch(none, c, 4000, 1)
	r.differsBy(one, two, 4, put(keyB, "c"))
	// A number that is not below its branch's, on both sides.
	above := r.s.Next() + 5
	one, two = r.branch(above, b, 1, 1), r.branch(above, c, 1, 1)
	r.differsBy(one, two, 4, put(keyB, "c"))
	r.differs(one, b, api.ErrCorrupt)
	r.differs(b, one, api.ErrCorrupt)
	// A leaf that stands in a place further down meets its own page there, and what that place's branch says is not asked.
	leaf := r.leaf(keyA, "a")
	next := r.s.Next()
	deep := r.branch(r.branch(leaf, 0, 2, 0), next+9, 2, 1)
	r.differs(leaf, deep, api.ErrCorrupt) // the right child
	deep = r.branch(r.branch(leaf, 0, 2, 0), b, 2, 1)
	r.differsBy(leaf, deep, 4, put(keyB, "b"))
	r.differsBy(deep, leaf, 4, del(keyB))
	r.gives(deep, keyA, "", api.ErrCorrupt)
	// The same page at unlike places is looked at, and at each of them anew.
	left, right := r.branch(b, 0, 2, 0), r.branch(0, b, 0, 2)
	r.differs(left, right, api.ErrCorrupt)
}

// P11.8: in forged trees one page is looked at each time that it is met.
func TestBetweenLooksAgain(t *testing.T) {
	r := begun(t, "P11.8", 60)
	// Below both halves of each tree lies one and the same branch; its leaves are the same pages in both trees, and so are not looked at.
	a, b := r.leaf(keyA, "a"), r.leaf(keyB, "b")
	low, mid := r.branch(a, b, 1, 1), r.branch(b, a, 1, 1)
	l1, l2 := r.branch(low, mid, 2, 2), r.branch(mid, low, 2, 2)
	r.differs(l1, l2, api.ErrCorrupt) // leaves meet others at the ends
	low2 := r.branch(a, b, 1, 1)
	x1, x2 := r.branch(low, mid, 2, 2), r.branch(low2, mid, 2, 2)
	// 2 roots, then low and low2, whose leaves are the same.
	r.differsBy(x1, x2, 4)
	y1, y2 := r.branch(x1, low, 4, 2), r.branch(x2, low2, 4, 2)
	// 2 roots, 2 branches, low and low2 beneath them, and once more on the right.
	r.differsBy(y1, y2, 8)
	r.asReadBetween(y1, y2)
}

// P11.8: forged trees that meet one another in ever more places: it ends, and looks at what the counts let be.
func TestBetweenEnds(t *testing.T) {
	r := begun(t, "P11.8", 400)
	a, b := r.leaf(keyA, "a"), r.leaf(keyB, "b")
	one, two := r.branch(a, b, 1, 1), r.branch(a, b, 1, 1)
	// Each level has two pages a tree, and each of them both pages of the level beneath.
	p, q, count := [2]int{one, two}, [2]int{r.branch(a, b, 1, 1), r.branch(a, b, 1, 1)}, 2
	for range 11 {
		var up, across [2]int
		for i := range 2 {
			up[i] = r.branch(p[i], q[i], count, count)
			across[i] = r.branch(p[i], q[i], count, count)
		}
		p, q, count = up, across, 2*count
	}
	r.asReadBetween(p[0], p[1])
	x, _ := r.readBetween(p[0], p[1])
	if x.broken || x.loads != 2*4095 {
		t.Errorf("P11.8: %d pages, broken %t: the trees say too little", x.loads, x.broken)
	}
	r.refusedSoon(p[0])
}

// refusedSoon asks that a full walk through a forged tree is refused.
func (r *rig) refusedSoon(root int) {
	r.Helper()
	x := r.asReadFrom(root, keyA)
	if !x.broken {
		r.Errorf("%s: the tree is not broken", r.promise)
	}
	r.asReadScan(root, keyA, keyZ, 1000)
	r.differs(root, 0, api.ErrCorrupt)
	r.differs(0, root, api.ErrCorrupt)
}
