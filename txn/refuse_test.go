package txn_test

import (
	"fmt"
	"testing"

	"ledger/api"
	"ledger/ledger"
)

// someIDs are numbers that transactions have, had, or never have.
var someIDs = []int{lowest, -2, -1, 0, 1, 2, 3, 4, 5, 32, 33, highest}

// someKeys are bytes that are keys, and others.
func someKeys() [][]byte {
	return [][]byte{nil, {}, keyK[:31], keyK[:], keyQ[:], append(keyK[:], 1), append(keyQ[:], keyQ[:]...)}
}

// someChanges are changes that may be, and others.
func someChanges() (all []api.Change) {
	for _, n := range []int{0, 1, 128, 129, 5000} {
		for _, k := range []api.Key{key(4), keyK} {
			all = append(all, put(k, text(n, n)), api.Change{Key: k, Del: true, Val: []byte(text(n, n))})
		}
	}
	return all
}

// asks calls all that ends no transaction, with all arguments, each with each.
func (r *rig) asks() {
	r.Helper()
	for _, id := range someIDs {
		for _, lo := range someKeys() {
			r.read(id, lo)
			for _, hi := range someKeys() {
				r.between(id, lo, hi)
			}
		}
		r.write(id, someChanges()...)
	}
}

// dies asks that every call is refused, whatever else is wrong with it, that nothing is read, and that Open tells what it told.
func (r *rig) dies(why api.Errno) {
	r.Helper()
	r.b.w.dead = why
	reads := r.d.Counts().Reads
	r.asks()
	for _, id := range someIDs {
		r.finishes(id, r.b.dead())
		r.abort(id)
	}
	r.begin()
	if r.d.Counts().Reads != reads {
		r.fails("a page was read")
	}
}

// busy makes a Manager of which 1 has finished, 3 is aborted, 5 has met a conflict, 2 is open, 4 too, with 64 keys written.
func busy(t *testing.T, promise string) *rig {
	t.Helper()
	r := begun(t, promise, 400, 2, 4)
	r.begin()
	r.write(1, put(keyQ, "one"), put(keyK, "a"))
	r.finishes(1, api.OK)
	for range 4 {
		r.begin()
	}
	r.reads(2, keyK)
	r.abort(3)
	for i := range 64 {
		r.write(4, put(key(4*i), "four"))
	}
	r.reads(5, high)
	r.commits(put(high, "z"))
	r.finishes(5, api.ErrConflict)
	return r
}

// P18.2: of no ledger there is a Manager: every call refuses with ErrArg, ahead of all else, and Open tells none.
func TestNoLedger(t *testing.T) {
	r := without(t)
	r.dies(api.OK)
	r.begin()
	r.dies(api.OK)
	if got := r.m.Open(); len(got) != 0 {
		r.fails("Open() = %v", got)
	}
}

// P18.2: a Manager has no transactions when it begins, also where another one has some.
func TestNewHasNone(t *testing.T) {
	r := busy(t, "P18.2")
	other := r.beside()
	other.tells()
	other.asks()
	for _, id := range someIDs {
		other.finishes(id, api.ErrTxn)
		other.abort(id)
	}
	other.begin()
	other.tells()
	r.tells()
}

// P18.4 to P18.8, R3: each refusal of each call, by itself and ahead of those behind it, with its word and number; what is refused leaves all as it was.
func TestOrderOfRefusals(t *testing.T) {
	r := busy(t, "P18.4 to P18.8")
	r.asks()
	for _, id := range someIDs {
		if id != 2 && id != 4 {
			r.finishes(id, api.ErrTxn)
			r.abort(id)
		}
	}
	r.asks()
	r.finishes(2, api.OK)
	r.finishes(4, api.ErrConflict) // 2 has written a key that both read
	r.isSerial()
}

// The refusals of the chapter, told one by one, without the book.
func TestRefusalsOneByOne(t *testing.T) {
	r := busy(t, "P18.4 to P18.8")
	long := put(keyK, text(1, 129))
	read := func(id int, k []byte) error { _, err := r.m.Read(id, k); return err }
	span := func(id int, lo, hi []byte) error { _, err := r.m.Range(id, lo, hi); return err }
	finish := func(id int) error { _, err := r.m.Finish(id); return err }
	for want, err := range map[string]error{
		"read at 9: not a key's bytes":                      read(9, keyK[:31]),
		"read at 2: not a key's bytes":                      read(2, append(keyK[:], 0)),
		"read at 9: no such transaction":                    read(9, keyK[:]),
		"read: no such transaction":                         read(-1, keyK[:]),
		"read at -2: no such transaction":                   read(-2, keyK[:]),
		"range at 8: not a key's bytes":                     span(8, keyQ[:31], keyK[:]),
		"range at 2: not a key's bytes":                     span(2, keyQ[:], keyK[:31]),
		"range at 8: the low end lies above the high end":   span(8, keyQ[:], keyK[:]),
		"range at 2: the low end lies above the high end":   span(2, keyQ[:], keyK[:]),
		"range at 8: no such transaction":                   span(8, keyK[:], keyQ[:]),
		"write at 7: a value too long":                      r.m.Write(7, long),
		"write at 4: a value too long":                      r.m.Write(4, long),
		"write at 7: no such transaction":                   r.m.Write(7, put(keyK, text(1, 128))),
		"write at 4: too many changes":                      r.m.Write(4, put(keyK, text(1, 128))),
		"finish at 0: no such transaction":                  finish(0),
		"finish at 5: no such transaction":                  finish(5),
		fmt.Sprintf("finish at %d: no such transaction", 1): finish(1),
		"abort at 3: no such transaction":                   r.m.Abort(3),
		"abort at 1: no such transaction":                   r.m.Abort(1),
		"abort: no such transaction":                        r.m.Abort(-1),
	} {
		if err == nil || err.Error() != want {
			r.fails("%v, want %q", err, want)
		}
	}
}

// R2, P18.14, P18.9: a ledger that is not live refuses each call ahead of all else; Open tells what is open nevertheless, and nothing has changed when power is there again.
func TestNotLive(t *testing.T) {
	for name, end := range map[string]func(r *rig) api.Errno{
		"a crash":             func(r *rig) api.Errno { r.d.Crash(nil); return api.ErrStale },
		"no power":            func(r *rig) api.Errno { darken(r); return api.ErrDown },
		"a crash, no power":   func(r *rig) api.Errno { r.d.Crash(nil); darken(r); return api.ErrStale },
		"a claim":             func(r *rig) api.Errno { r.d.Claim(); return api.ErrStale },
		"opened by another":   func(r *rig) api.Errno { ledger.Open(r.d, 3); return api.ErrStale },
		"no power, a claim":   func(r *rig) api.Errno { darken(r); r.d.Claim(); return api.ErrStale },
		"no power, a restart": func(r *rig) api.Errno { darken(r); r.d.Crash([]byte{15}); return api.ErrStale },
	} {
		t.Run(name, func(t *testing.T) {
			r := busy(t, "R2, P18.14")
			why := end(r)
			r.dies(why)
			if got := fmt.Sprint(r.m.Open()); got != "[2 4]" {
				r.fails("P18.9: Open() = %s", got)
			}
			// A full Manager is no reason ahead of this one.
			r = begun(t, "R2, P18.3", 40, 4, 4)
			for range 32 {
				r.begin()
			}
			r.dies(end(r))
		})
	}
}

// darken takes the power from a disk, without a write.
func darken(r *rig) {
	r.Helper()
	r.d.Arm(1)
	if e := r.d.Sync(); e != api.ErrDown {
		r.Fatal(e)
	}
}

// P18.14: behind a crash a Manager over the ledger that is opened anew has no transactions and begins its numbers anew; the old one is stale for good.
func TestBehindACrash(t *testing.T) {
	r := busy(t, "P18.14")
	old := *r
	stale := *r.b.w
	old.b = &book{w: &stale, deals: r.b.deals, given: r.b.given}
	r.d.Crash([]byte{15, 15})
	r.opens(3)
	r.tells()
	if r.begin() != 1 {
		r.fails("the numbers do not begin anew")
	}
	r.reads(1, keyK)
	r.write(1, put(keyK, "new"))
	old.dies(api.ErrStale)
	r.finishes(1, api.OK)
	old.dies(api.ErrStale)
	r.isSerial()
}
