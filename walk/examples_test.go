package walk_test

import (
	"slices"
	"testing"

	"ledger/api"
	"ledger/walk"
)

// Example 1: from a key on.
func TestExampleFrom(t *testing.T) {
	r := chapter(t, "example 1")
	r.gives(4, keyA, "ab", api.OK)
	r.gives(4, keyC, "b", api.OK)
	r.gives(261, keyA, "acb", api.OK)
	r.gives(262, keyA, "", api.ErrPage)
	r.gives(0, keyA, "", api.OK)
	if list, e := given(walk.From(nil, 4, keyA)); len(list) != 0 || e != api.ErrArg {
		t.Errorf("example 1: of no store: %v, %v", list, e)
	}
	list, _ := given(walk.From(r.s, 261, keyA))
	want := []api.Entry{{Key: keyA, Val: []byte("a")}, {Key: keyC, Val: []byte("c")}, {Key: keyB, Val: []byte("b")}}
	if told(list) != told(want) {
		t.Errorf("example 1: %s, want %s", told(list), told(want))
	}
}

// Example 2: from one key to another.
func TestExampleScan(t *testing.T) {
	r := chapter(t, "example 2")
	r.scans(261, keyA, keyB, 2, "ac", true, api.OK)
	r.scans(261, keyC, keyC, 5, "c", false, api.OK)
	r.scans(261, keyB, keyA, 5, "", false, api.ErrRange)
	r.scans(261, keyA, keyB, 1001, "", false, api.ErrArg)
	r.scans(261, keyA, keyB, 0, "", true, api.OK)
}

// Example 3: from one tree to another, and which pages are looked at.
func TestExampleBetween(t *testing.T) {
	r := chapter(t, "example 3")
	r.differsBy(4, 261, 259, put(keyC, "c"))
	r.differsBy(261, 4, 259, del(keyC))
	r.differsBy(4, 4, 0)
	x, _ := r.readBetween(4, 261)
	want := []int{4, 261, 2, 260}
	for page := 259; page >= 5; page-- {
		want = append(want, page)
	}
	if !slices.Equal(x.looked, want) {
		t.Errorf("example 3: the plain reading looks at %v", x.looked)
	}
	r.flush()
	for page := 2; page <= 261; page++ {
		spoilt := r.reopened(0)
		spoilt.d.Flip(page, 77, 1)
		if page == 3 { // B's leaf, which both have at one place
			spoilt.differsBy(4, 261, 259, put(keyC, "c"))
			spoilt.differsBy(261, 4, 259, del(keyC))
		} else {
			spoilt.differs(4, 261, api.ErrCorrupt)
			spoilt.differs(261, 4, api.ErrCorrupt)
		}
		spoilt.differsBy(4, 4, 0)
	}
}

// Example 4: how many keys are below one.
func TestExampleRank(t *testing.T) {
	r := chapter(t, "example 4")
	r.ranks(261, keyB, 2, api.OK)
	r.ranks(261, keyA, 0, api.OK)
	r.ranks(261, keyC, 1, api.OK)
	r.ranks(261, keyZ, 3, api.OK)
}

// Example 5: by numbers.
func TestExampleAt(t *testing.T) {
	r := chapter(t, "example 5")
	r.has(261, 2, keyB, "b")
	r.hasNot(261, 3, api.ErrRange)
	r.hasNot(261, -1, api.ErrRange)
	r.hasNot(0, 0, api.ErrRange)
	r.hasNot(262, -1, api.ErrPage)
}

// Example 6: a branch that states 2 keys on the left, where a leaf lies.
func TestExampleForged(t *testing.T) {
	r := chapter(t, "example 6")
	root := r.branch(2, 3, 2, 1)
	r.gives(root, keyA, "", api.ErrCorrupt)
	r.scans(root, keyA, keyA, 5, "", false, api.ErrCorrupt)
	r.differs(root, 0, api.ErrCorrupt)
	r.differs(0, root, api.ErrCorrupt)
	r.ranks(root, keyA, 0, api.ErrCorrupt)
	r.hasNot(root, 0, api.ErrCorrupt)
	r.hasNot(root, 1, api.ErrCorrupt)
	r.ranks(root, keyB, 2, api.OK)
	r.ranks(root, keyZ, 3, api.OK)
	r.has(root, 2, keyB, "b")
	r.gives(root, keyB, "b", api.OK)
	r.scans(root, keyB, keyZ, 5, "b", false, api.OK)
}
