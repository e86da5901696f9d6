package walk_test

import (
	"fmt"
	"testing"

	"ledger/api"
	"ledger/file"
	"ledger/store"
	"ledger/walk"
)

// allRefuse asks that each of the calls refuses, whatever else is wrong with its arguments.
func allRefuse(t *testing.T, promise string, s *store.Store, root int, why api.Errno) {
	t.Helper()
	r := &rig{T: t, promise: promise, s: s}
	r.gives(root, keyA, "", why)
	r.gives(root, keyZ, "", why)
	for _, limit := range []int{lowest, -1, 0, 5, 1000, 1001, highest} {
		r.scans(root, keyA, keyB, limit, "", false, why)
		r.scans(root, keyB, keyA, limit, "", false, why)
	}
	for _, other := range []int{root, 0, 1, -1, 4, highest} {
		r.differs(root, other, why)
		r.differs(other, root, why)
	}
	r.ranks(root, keyA, 0, why)
	r.ranks(root, keyZ, 0, why)
	for _, i := range []int{lowest, -1, 0, 1, 2, highest} {
		r.hasNot(root, i, why)
	}
}

// roots tells numbers around the edges: those that may be a root in a store whose Next is this one, and those that may not.
func roots(next int) (right, wrong []int) {
	return []int{0, 2, 3, next - 1}, []int{lowest, -4096, -2, -1, 1, next, next + 1, 4095, 4096, highest}
}

// P11.2, P11.5, P11.7, P11.9, P11.10, R3: a nil store is told ahead of all else.
func TestNilStore(t *testing.T) {
	right, wrong := roots(262)
	for _, root := range append(right, wrong...) {
		allRefuse(t, fmt.Sprintf("R3: of no store, root %d", root), nil, root, api.ErrArg)
	}
}

// R2, R3: a store that is not live is told ahead of the arguments: a crash, another opening, the loss of power.
func TestStoreThatIsNotLive(t *testing.T) {
	right, wrong := roots(262)
	for _, c := range []struct {
		name string
		kill func(r *rig)
		why  api.Errno
	}{
		{"crashed", func(r *rig) { r.d.Crash(nil) }, api.ErrStale},
		{"opened anew", func(r *rig) { file.Open(r.d) }, api.ErrStale},
		{"without power", func(r *rig) { r.d.Arm(1); r.s.Flush(0) }, api.ErrDown},
		{"claimed, then without power", func(r *rig) { r.d.Arm(1); r.s.Flush(0); r.d.Claim() }, api.ErrStale},
	} {
		r := chapter(t, "R2: "+c.name)
		live := walk.From(r.s, 261, keyA)
		if list, e := given(live); len(list) != 3 || e != api.OK {
			t.Fatal(list, e)
		}
		c.kill(r)
		loads := r.loads()
		for _, root := range append(right, wrong...) {
			allRefuse(t, fmt.Sprintf("%s, root %d", r.promise, root), r.s, root, c.why)
		}
		if list, e := given(live); len(list) != 0 || e != c.why {
			t.Errorf("P11.2: %s: a Walker from before: %v, %v, want %v", c.name, list, e, c.why)
		}
		if r.loads() != loads {
			t.Errorf("%s: a page was looked at", r.promise)
		}
	}
}

// P11.2, P11.5, P11.7, P11.9, P11.10: which roots are refused, ahead of what else is wrong.
func TestRoots(t *testing.T) {
	r := chapter(t, "")
	loads := r.loads()
	right, wrong := roots(r.s.Next())
	for _, root := range wrong {
		r.promise = fmt.Sprintf("ErrPage: root %d", root)
		r.quietly(func() { allRefuse(t, r.promise, r.s, root, api.ErrPage) })
		for _, other := range right {
			r.differs(other, root, api.ErrPage)
			r.differs(root, other, api.ErrPage)
		}
	}
	if r.loads() != loads {
		t.Errorf("ErrPage: a page was looked at")
	}
	for root, want := range map[int]string{0: "", 2: "a", 3: "b", 4: "ab", 5: "c", 261: "acb"} {
		r.promise = fmt.Sprintf("root %d", root)
		r.gives(root, keyA, want, api.OK)
		r.scans(root, keyA, keyZ, 5, want, false, api.OK)
		r.ranks(root, keyZ, len(want), api.OK)
		if root != 0 {
			r.hasNot(root, len(want), api.ErrRange)
		}
	}
	// Next grows: what was no root is one now, of a page that is no node.
	r.promise = "ErrPage"
	r.forge(api.KindRecord, nil)
	r.refused(262, api.ErrCorrupt)
	r.refused(263, api.ErrPage)
	r.rewind(262)
	r.refused(262, api.ErrPage)
}

// quietly is quiet without a load of pages, for those who count loads.
func (r *rig) quietly(calls func()) {
	r.Helper()
	counts, next, staged := r.d.Counts(), r.s.Next(), r.s.Staged()
	calls()
	if r.d.Counts() != counts || r.s.Next() != next || r.s.Staged() != staged {
		r.Errorf("P11.12: %s: %+v, next %d, from %+v, %d", r.promise, r.d.Counts(), r.s.Next(), counts, next)
	}
}

// P11.5: the order of Scan's own refusals: lo above hi, the limit, the pages.
func TestScanRefusals(t *testing.T) {
	r := chapter(t, "P11.5")
	spoilt := r.forge(api.KindRecord, nil)
	for _, root := range []int{0, 4, 261, spoilt} {
		loads := r.loads()
		for _, limit := range []int{lowest, -1, 0, 1, 1000, 1001, highest} {
			r.scans(root, keyB, keyA, limit, "", false, api.ErrRange)
			r.scans(root, keyC, keyA, limit, "", false, api.ErrRange)
			r.scans(root, keyZ, moved(keyZ, -1), limit, "", false, api.ErrRange)
		}
		for _, limit := range []int{lowest, -4096, -2, -1, 1001, 1002, 4096, highest} {
			r.scans(root, keyA, keyA, limit, "", false, api.ErrArg)
			r.scans(root, keyA, keyZ, limit, "", false, api.ErrArg)
		}
		if r.loads() != loads {
			t.Errorf("P11.5: root %d: a page was looked at", root)
		}
	}
	for _, limit := range []int{0, 1, 1000} {
		r.scans(spoilt, keyA, keyA, limit, "", false, api.ErrCorrupt)
	}
}

// P11.7: the root a, then the root b, then the pages; a page that is refused is told in either tree.
func TestBetweenRefusals(t *testing.T) {
	r := chapter(t, "P11.7")
	spoilt := r.forge(api.KindRecord, nil)
	loads := r.loads()
	for _, wrong := range []int{lowest, -1, 1, 263, highest} {
		r.differs(wrong, spoilt, api.ErrPage)
		r.differs(spoilt, wrong, api.ErrPage)
		r.differs(wrong, wrong, api.ErrPage)
	}
	if r.loads() != loads {
		t.Errorf("P11.7: a page was looked at")
	}
	for _, other := range []int{0, 2, 4, 261} {
		r.differs(other, spoilt, api.ErrCorrupt)
		r.differs(spoilt, other, api.ErrCorrupt)
	}
	r.differsBy(spoilt, spoilt, 0)
}

// P11.10: the order of At's own refusals: a number below 0 or the empty tree, the root's page, a number that is too great.
func TestAtRefusals(t *testing.T) {
	r := chapter(t, "P11.10")
	spoilt := r.forge(api.KindRecord, nil)
	loads := r.loads()
	for _, i := range []int{lowest, -4096, -2, -1} {
		for _, root := range []int{0, 2, 4, 261, spoilt} {
			r.hasNot(root, i, api.ErrRange)
		}
	}
	for _, i := range []int{0, 1, 4096, highest} {
		r.hasNot(0, i, api.ErrRange)
	}
	if r.loads() != loads {
		t.Errorf("P11.10: a page was looked at")
	}
	for _, i := range []int{0, 1, 4096, highest} {
		r.hasNot(spoilt, i, api.ErrCorrupt)
	}
	// The number is held against the root's own counts, ahead of the pages beneath.
	broken := r.branch(spoilt, 3, 1, 1)
	loads = r.loads()
	r.hasNot(broken, 2, api.ErrRange)
	r.hasNot(broken, highest, api.ErrRange)
	if n := r.loads() - loads; n != 2 {
		t.Errorf("P11.10: %d pages were looked at, want the root twice", n)
	}
	r.hasNot(broken, 0, api.ErrCorrupt)
	r.has(broken, 1, keyB, "b")
}
