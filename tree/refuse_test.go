package tree_test

import (
	"testing"

	"ledger/api"
	"ledger/file"
	"ledger/store"
	"ledger/tree"
)

// tooMany, tooLong and twice are lists that batch.Normal refuses; each of the first two also has what comes behind it.
func tooMany() []api.Change {
	return append(make([]api.Change, 4096), api.Change{Val: make([]byte, 129)})
}

func tooLong() []api.Change {
	return []api.Change{put(keyK, ""), {Key: keyB, Val: make([]byte, 129)}, put(keyK, "")}
}

func twice() []api.Change { return []api.Change{put(keyK, "x"), put(keyB, "y"), del(keyK)} }

// P10.5: what is refused ahead of anything that is looked at, in its order.
func TestNoStore(t *testing.T) {
	for _, root := range []int{lowest, -1, 0, 1, 2, highest} {
		for _, cs := range [][]api.Change{nil, {}, {put(keyK, "x")}, twice(), tooMany()} {
			val, found, e1 := tree.Get(nil, root, keyK)
			sum, e2 := tree.Sum(nil, root)
			keys, e3 := tree.Count(nil, root)
			cost, e4 := tree.Cost(nil, root, cs)
			page, e5 := tree.Update(nil, root, cs)
			for _, e := range []api.Errno{e1, e2, e3, e4, e5} {
				if e != api.ErrArg {
					t.Errorf("P10.5: without a store: %v, want %v", e, api.ErrArg)
				}
			}
			if val != nil || found || sum != (api.Digest{}) || keys != 0 || cost != 0 || page != 0 {
				t.Errorf("P10.5: without a store: %v, %t, %x, %d, %d, %d", val, found, sum, keys, cost, page)
			}
		}
	}
}

// P10.5, R2: a store that is not live refuses ahead of the root and the list, also where nothing would be looked at.
func TestStoreThatIsNotLive(t *testing.T) {
	ends := map[string]func(r *rig) api.Errno{
		"without power": func(r *rig) api.Errno {
			r.d.Arm(1)
			r.d.Sync()
			return api.ErrDown
		},
		"behind a crash": func(r *rig) api.Errno {
			r.d.Crash(nil)
			return api.ErrStale
		},
		"behind another opening": func(r *rig) api.Errno {
			if _, e := file.Open(r.d); e != api.OK {
				t.Fatal(e)
			}
			return api.ErrStale
		},
		"behind a crash, without power": func(r *rig) api.Errno {
			r.d.Crash(nil)
			r.d.Arm(1)
			r.d.Sync()
			return api.ErrStale
		},
	}
	for name, end := range ends {
		r := begun(t, "P10.5: "+name, 16, 4)
		root := r.updates(0, 4, 3, put(keyK, "x"), put(keyB, "y"))
		record := r.forge(3, nil)
		want := end(r)
		for _, page := range []int{lowest, -1, 0, 1, 2, root, record, 6, highest} {
			for _, cs := range [][]api.Change{nil, {}, {put(keyC, "z")}, {del(keyK)}, tooLong(), tooMany(), twice()} {
				r.unstaged(func() { r.allRefuse(page, want, cs...) })
			}
		}
	}
}

// P10.5: a root that is no page is refused ahead of the list's own faults.
func TestRootsThatAreNone(t *testing.T) {
	fresh := begun(t, "P10.5", 8, 4)
	for _, root := range []int{lowest, -2, -1, 1, 2, 3, 7, 8, highest} {
		for _, cs := range [][]api.Change{nil, {put(keyK, "x")}, twice(), tooLong(), tooMany()} {
			fresh.unstaged(func() { fresh.allRefuse(root, api.ErrPage, cs...) })
		}
	}
	r := begun(t, "P10.5", 16, 4)
	r.updates(0, 4, 3, put(keyK, "x"), put(keyB, "y"))
	r.flush()
	r.updates(0, 5, 1, put(keyC, "z"))
	for _, root := range []int{lowest, -4, -1, 1, 6, 7, 15, 16, 1<<32 + 4, highest} {
		for _, cs := range [][]api.Change{nil, {put(keyK, "x")}, twice(), tooLong(), tooMany()} {
			r.unstaged(func() { r.allRefuse(root, api.ErrPage, cs...) })
		}
	}
	for root, want := range map[int]int{0: 0, 2: 1, 3: 1, 4: 2, 5: 1} { // Next is 6
		r.counts(root, want)
		r.updates(root, root, 0)
	}
}

// P10.5, P10.15: the list's own faults, in their order, ahead of what the pages hold and of ErrFull.
func TestListsThatAreRefused(t *testing.T) {
	long := string(make([]byte, 129))
	lists := []struct {
		want api.Errno
		cs   []api.Change
	}{
		{api.ErrMany, make([]api.Change, 4097)},
		{api.ErrMany, make([]api.Change, 5000)},
		{api.ErrMany, tooMany()},
		{api.ErrLong, append(make([]api.Change, 4095), put(keyB, long))},
		{api.ErrLong, tooLong()},
		{api.ErrLong, []api.Change{put(keyK, long)}},
		{api.ErrLong, []api.Change{put(keyK, long+long)}},
		{api.ErrLong, []api.Change{del(keyK), put(keyB, "b"), put(keyC, long)}},
		{api.ErrDup, make([]api.Change, 4096)},
		{api.ErrDup, twice()},
		{api.ErrDup, []api.Change{put(keyK, "x"), put(keyK, "x")}},
		{api.ErrDup, []api.Change{del(keyC), del(keyC)}},
	}
	honest := begun(t, "P10.5", 5, 4)
	honest.updates(0, 4, 3, put(keyK, "x"), put(keyB, "y")) // nothing is free now
	forged := begun(t, "P10.5", 5, 4)
	forged.forge(3, nil)
	for _, c := range lists {
		for root := range 5 {
			if root != 1 {
				honest.unstaged(func() { honest.refuses(root, c.want, c.cs...) })
			}
		}
		forged.unstaged(func() { forged.refuses(2, c.want, c.cs...) })
	}
}

// P10.5: what does not stand is told ahead of ErrFull, whichever side of the list it lies on.
func TestCorruptAheadOfFull(t *testing.T) {
	for _, k := range []api.Key{keyK, keyB} {
		r := begun(t, "P10.5", 5, 4)
		good := r.leaf(flipped(k, 0), "g")
		bad := r.forge(3, nil)
		left, right := good, bad
		if k == keyK {
			left, right = bad, good
		}
		root := r.branch(left, right, 1, 1)
		r.unstaged(func() {
			r.updatesNot(root, api.ErrFull, put(flipped(k, 0), "other"))
			r.refuses(root, api.ErrCorrupt, put(flipped(k, 0), "other"), put(k, "b"))
			r.refuses(root, api.ErrCorrupt, put(flipped(k, 0), "other"), del(k))
			r.refuses(root, api.ErrCorrupt, del(k))
		})
	}
}

// P10.4, P10.14: an empty list looks at nothing, so that it is not refused for what lies there.
func TestEmptyListsLookAtNothing(t *testing.T) {
	r := begun(t, "P10.14", 4, 4)
	r.forge(3, nil)
	r.forge(2, []byte("no branch"))
	for _, root := range []int{0, 2, 3} {
		for _, cs := range [][]api.Change{nil, {}} {
			r.unstaged(func() { r.updates(root, root, 0, cs...) })
		}
	}
}

// The chapter's Ways: what is none of the package's own panics goes on its way. A zero value of a store, which nobody may hand in, makes one.
func TestOtherPanicsGoOn(t *testing.T) {
	calls := map[string]func(s *store.Store){
		"Get":    func(s *store.Store) { tree.Get(s, 0, keyK) },
		"Sum":    func(s *store.Store) { tree.Sum(s, 0) },
		"Count":  func(s *store.Store) { tree.Count(s, 0) },
		"Cost":   func(s *store.Store) { tree.Cost(s, 0, nil) },
		"Update": func(s *store.Store) { tree.Update(s, 0, nil) },
	}
	for name, call := range calls {
		func() {
			defer func() {
				if _, is := recover().(error); !is {
					t.Errorf("Ways: %s keeps a panic that is not its own", name)
				}
			}()
			call(new(store.Store))
		}()
	}
}
