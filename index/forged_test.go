package index_test

import (
	"testing"

	"ledger/api"
)

// P15.4: a head that does not stand by itself.
func TestHeadsThatDoNotStand(t *testing.T) {
	right := laid(linked(2, 0, 2, 0))
	for name, stage := range map[string]func(r *rig) int{
		"a leaf":                  func(r *rig) int { return r.forge(1, right) },
		"a branch":                func(r *rig) int { return r.forge(2, right) },
		"nothing":                 func(r *rig) int { return r.forge(3, nil) },
		"55 bytes":                func(r *rig) int { return r.forge(3, right[:55]) },
		"57 bytes":                func(r *rig) int { return r.forge(3, append(right[:56:56], 0)) },
		"246 bytes":               func(r *rig) int { return r.forge(3, append(right[:56:56], make([]byte, 190)...)) },
		"zeros":                   func(r *rig) int { return r.forge(3, make([]byte, 56)) },
		"version 0":               func(r *rig) int { return r.record(linked(0, 0, 0, 0)) },
		"version 2^30 + 1":        func(r *rig) int { return r.record(linked(top+1, 0, 2, 2)) },
		"version below First":     func(r *rig) int { return r.record(linked(4, 5, 0, 0)) },
		"number 1 with Prev":      func(r *rig) int { return r.record(linked(5, 5, 2, 0)) },
		"number 3, Skip not Prev": func(r *rig) int { return r.record(linked(3, 0, 3, 2)) },
		"number 6, Skip is Prev":  func(r *rig) int { return r.record(linked(6, 0, 3, 3)) },
		"a Prev above":            func(r *rig) int { return r.record(linked(2, 0, r.s.Next()+1, 0)) },
		"a Prev that is itself":   func(r *rig) int { return r.record(linked(2, 0, r.s.Next(), 0)) },
		"a Prev far above":        func(r *rig) int { return r.record(linked(2, 0, 4095, 0)) },
		"links above":             func(r *rig) int { return r.record(linked(3, 0, r.s.Next()+1, r.s.Next()+1)) },
		"links that are itself":   func(r *rig) int { return r.record(linked(3, 0, r.s.Next(), r.s.Next())) },
		"Prev itself, Skip below": func(r *rig) int { return r.record(linked(6, 0, r.s.Next(), 2)) },
		"Prev and Skip above":     func(r *rig) int { return r.record(linked(6, 0, r.s.Next()+2, r.s.Next()+1)) },
		"a Root that is itself":   func(r *rig) int { return r.record(of(1, r.s.Next(), 1)) },
		"a Root above":            func(r *rig) int { return r.record(of(1, r.s.Next()+1, 1)) },
		"a Root far above":        func(r *rig) int { return r.record(of(1, 4095, 1)) },
		"a Root without keys":     func(r *rig) int { return r.record(of(1, 2, 0)) },
		"keys without a Root":     func(r *rig) int { return r.record(of(1, 0, 1)) },
	} {
		r := begun(t, "P15.4: "+name, 20)
		r.chain(1, 0, 2)
		head := stage(r)
		r.filler(head + 6)
		r.refused(head, api.ErrCorrupt)
		r.flush()
		r.refused(head, api.ErrCorrupt)
		r.reopened(0).refused(head, api.ErrCorrupt)
	}
}

// P15.4: just below its own page a link and a root may be.
func TestLinksJustBelow(t *testing.T) {
	r := begun(t, "P15.4", 20)
	r.filler(4)
	for _, x := range []api.Record{linked(2, 0, 3, 0), linked(3, 0, 4, 4), linked(6, 0, 5, 4), of(1, 6, 1), {Version: 6, Prev: 7, Skip: 6, Root: 7, Count: 3}, {Version: 6, Prev: 8, Skip: 2, Root: 8, Count: 4096}} {
		head := r.record(x)
		if head != max(x.Prev, x.Root)+1 {
			t.Fatal(head)
		}
		r.bounds(head, 0, x.Version, api.OK)
		r.finds(head, x.Version, 1, x)
		r.finds(head, 0, 1, emptyRecord(4))
	}
}

// leading makes a record of number 2 that leads to what is staged for it, and that is all that is wrong.
func leading(t *testing.T, stage func(r *rig) int) (*rig, int) {
	t.Helper()
	r := begun(t, "P15.4", 20)
	r.filler(3)
	return r, r.record(linked(2, 0, stage(r), 0))
}

// P15.4: what Prev leads to must stand, have the same First and a Version that is one less. Bounds and Find of the head's own version look at the head alone.
func TestPrevThatDoesNotStand(t *testing.T) {
	for name, stage := range map[string]func(r *rig) int{
		"a leaf":              func(r *rig) int { return r.forge(1, laid(linked(1, 0, 0, 0))) },
		"no record":           func(r *rig) int { return r.forge(3, nil) },
		"a Root above":        func(r *rig) int { return r.record(of(1, r.s.Next(), 1)) },
		"another First":       func(r *rig) int { return r.record(linked(1, 1, 0, 0)) },
		"the same Version":    func(r *rig) int { return r.record(linked(2, 0, 2, 0)) },
		"two less, and First": func(r *rig) int { return r.record(linked(2, 2, 0, 0)) },
		"a greater Version":   func(r *rig) int { return r.record(linked(3, 0, 2, 2)) },
		"far above":           func(r *rig) int { return r.record(linked(top, 0, 2, 0)) },
	} {
		r, head := leading(t, stage)
		r.promise = "P15.4: " + name
		r.findsNot(head, 1, api.ErrCorrupt)
		r.finds(head, 2, 1, linked(2, 0, head-1, 0))
		r.finds(head, 0, 1, emptyRecord(4))
		r.bounds(head, 0, 2, api.OK)
		r.adds(head, api.Record{}, linked(3, 0, head, head)) // an odd number: the head alone is looked at
	}
	r, head := leading(t, func(r *rig) int { return r.record(linked(1, 0, 0, 0)) })
	r.finds(head, 1, 2, linked(1, 0, 0, 0))
	// first ones with another First beneath, whose numbers would fit
	r = begun(t, "P15.4", 20)
	head = r.record(linked(9, 8, r.record(linked(1, 0, 0, 0)), 0))
	r.findsNot(head, 8, api.ErrCorrupt)
	head = r.record(linked(9, 8, r.record(linked(8, 7, 2, 0)), 0))
	r.findsNot(head, 8, api.ErrCorrupt)
	head = r.record(linked(9, 8, r.record(linked(7, 7, 0, 0)), 0))
	r.findsNot(head, 8, api.ErrCorrupt)
	head = r.record(linked(9, 8, r.record(linked(8, 8, 0, 0)), 0))
	r.finds(head, 8, 2, linked(8, 8, 0, 0))
}

// P15.4: what Skip leads to must stand, have the same First and the Version that is asked for: a head of the number 12 asks for 8.
func TestSkipThatDoesNotStand(t *testing.T) {
	for name, c := range map[string]struct {
		x    api.Record
		kind int
		good bool
	}{
		"as it should be":    {linked(8, 0, 2, 0), 3, true},
		"one more":           {linked(9, 0, 2, 2), 3, false},
		"one less":           {linked(7, 0, 2, 2), 3, false},
		"as by Prev":         {linked(11, 0, 2, 2), 3, false},
		"number 4":           {linked(4, 0, 2, 0), 3, false},
		"another First":      {linked(8, 1, 2, 0), 3, false},
		"another First too":  {linked(9, 2, 2, 0), 3, false},
		"a leaf":             {linked(8, 0, 2, 0), 1, false},
		"a branch":           {linked(8, 0, 2, 0), 2, false},
		"no record":          {linked(8, 0, 0, 0), 3, false},
		"a Root above":       {api.Record{Version: 8, Prev: 2, Root: 18, Count: 1}, 3, false},
		"a Prev above":       {linked(8, 0, 18, 0), 3, false},
		"a Root just below":  {api.Record{Version: 8, Prev: 2, Root: 3, Count: 1}, 3, true},
		"a Root that is one": {api.Record{Version: 8, Prev: 2, Root: 4, Count: 1}, 3, false},
	} {
		r := begun(t, "P15.4: "+name, 20)
		r.filler(4)
		skip := r.forge(c.kind, laid(c.x))
		prev := r.record(linked(11, 0, 3, 3))
		head := r.record(linked(12, 0, prev, skip))
		r.bounds(head, 0, 12, api.OK)
		r.finds(head, 12, 1, linked(12, 0, prev, skip))
		r.finds(head, 11, 2, linked(11, 0, 3, 3)) // by Prev: Skip is not looked at
		if c.good {
			r.finds(head, 8, 2, c.x)
		} else {
			r.findsNot(head, 8, api.ErrCorrupt)
			r.findsNot(head, 5, api.ErrCorrupt)
		}
		// behind the number 13 comes 14, whose Skip is 12; behind 15 a power of two
		r.adds(head, api.Record{}, linked(13, 0, head, head))
		r.adds(head+1, api.Record{}, linked(14, 0, head+1, head))
		r.adds(head+2, api.Record{}, linked(15, 0, head+2, head+2))
		r.adds(head+3, api.Record{}, linked(16, 0, head+3, 0))
	}
}

// P15.5, P15.7: Add looks at all records from the head to the Skip page, that one too, and at no other.
func TestAddOverForgedRecords(t *testing.T) {
	// from the number 7, for the number 8 nothing but the head; from 11, for 12: 11, 10, 8
	stage := func(r *rig, ten, eight api.Record) int {
		r.filler(4)
		r.record(eight) // 4
		r.filler(6)
		r.record(ten) // 6
		return r.record(linked(11, 0, 6, 6))
	}
	good10, good8 := linked(10, 0, 5, 4), linked(8, 0, 3, 0)
	r := begun(t, "P15.7", 20)
	head := stage(r, good10, good8) // the records 9 and 7 are leaves: nobody looks there
	r.adds(head, api.Record{}, linked(12, 0, head, 4))
	for _, c := range [][2]api.Record{
		{good10, linked(8, 0, 0, 0)}, {good10, linked(8, 1, 3, 0)}, {good10, linked(9, 0, 3, 3)}, {good10, linked(7, 0, 3, 3)}, {good10, linked(8, 0, 4, 0)}, {good10, api.Record{Version: 8, Prev: 3, Root: 4, Count: 1}},
		{linked(10, 0, 5, 5), good8}, {linked(10, 0, 6, 4), good8}, {linked(10, 0, 5, 3), good8}, {linked(9, 0, 4, 4), good8}, {linked(11, 0, 4, 4), good8}, {linked(10, 1, 5, 4), good8}, {linked(8, 0, 3, 0), good8}, {api.Record{Version: 10, Prev: 5, Skip: 4, Root: 6, Count: 1}, good8},
	} {
		r := begun(t, "P15.5", 20)
		head := stage(r, c[0], c[1])
		r.addsNot(head, api.Record{}, api.ErrCorrupt)
		r.bounds(head, 0, 11, api.OK)
		r.finds(head, 11, 1, linked(11, 0, 6, 6))
	}
}

// P15.12: rings and rows of links that lead nowhere: each call ends.
func TestRings(t *testing.T) {
	r := begun(t, "P15.12", 4096)
	// a ring of two, one of them above the other
	r.record(linked(3, 0, 3, 3))
	r.record(linked(2, 0, 2, 0))
	for version := range 4 {
		r.asReadFind(2, version)
		r.asReadFind(3, version)
	}
	r.findsNot(3, 1, api.ErrCorrupt)
	// the longest row of pages that lead down by one, all of the highest versions: the numbers do not fit
	for r.s.Next() < 4096 {
		page := r.s.Next()
		r.record(linked(top-1, 0, page-1, page-1))
	}
	for _, head := range []int{4, 5, 100, 4095} {
		for _, version := range []int{1, 2, 1 << 20, top - 3, top - 2, top - 1, top} {
			r.asReadFind(head, version)
		}
		r.asReadBounds(head)
		r.asReadAdd(head, api.Record{})
	}
}
