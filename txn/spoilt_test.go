package txn_test

import (
	"bytes"
	"fmt"
	"testing"

	"ledger/api"
	"ledger/frame"
	"ledger/ledger"
	"ledger/node"
)

// leafOf tells the page of the newest leaf with a key.
func (r *rig) leafOf(k api.Key) int {
	r.Helper()
	image := r.d.Image()
	for page := r.b.w.used - 1; page >= 2; page-- {
		if raw := image[256*page : 256*page+256]; raw[0] == api.KindLeaf && bytes.Equal(raw[6:38], k[:]) {
			return page
		}
	}
	r.Fatalf("%s: no leaf has the key %.4x", r.promise, k)
	return 0
}

// flip spoils the leaf of a key behind the ledger's back, or heals it; the ledger's room is 1, so a read of another key leaves the leaf to be read from the disk.
func (r *rig) flip(k, other api.Key) {
	r.Helper()
	if e := r.d.Flip(r.leafOf(k), 1500, 5); e != api.OK {
		r.Fatal(e)
	}
	if _, err := r.l.Get(other[:], -1); err != nil {
		r.Fatal(err)
	}
}

// corrupt asks that a call is refused because of a spoilt page, and changes nothing.
func (r *rig) corrupt(name string, id int, call func() error) {
	r.Helper()
	r.quiet(func() {
		r.Helper()
		if err := call(); !isRefusal(err, name, id, api.ErrCorrupt) {
			r.fails("%s of %d: %v, want ErrCorrupt", name, id, err)
		}
	})
	r.tells()
}

func (r *rig) corruptRead(id int, k api.Key) {
	r.Helper()
	r.corrupt("read", id, func() error {
		a, err := r.m.Read(id, k[:])
		if a.Found || a.Val != nil {
			r.fails("Read = %v beside an error", a)
		}
		return err
	})
}

func (r *rig) corruptRange(id int, lo, hi api.Key) {
	r.Helper()
	r.corrupt("range", id, func() error {
		list, err := r.m.Range(id, lo[:], hi[:])
		if list != nil {
			r.fails("Range = %d entries beside an error", len(list))
		}
		return err
	})
}

func (r *rig) corruptFinish(id int) {
	r.Helper()
	r.corrupt("finish", id, func() error {
		version, err := r.m.Finish(id)
		if version != 0 {
			r.fails("Finish = %d beside an error", version)
		}
		return err
	})
}

// fragile makes a ledger of room 1 with k "a", q "b", 9 "c", and two open transactions.
func fragile(t *testing.T, promise string) *rig {
	t.Helper()
	r := begun(t, promise, 400, 2, 1)
	r.commits(put(keyK, "a"), put(keyQ, "b"), put(key(9), "c"))
	r.begin()
	r.begin()
	return r
}

// P18.4: of a Read that the ledger refuses nothing is kept: what it would have told is no conflict later.
func TestSpoiltRead(t *testing.T) {
	r := fragile(t, "P18.4")
	r.flip(keyK, keyQ)
	r.corruptRead(1, keyK)
	r.reads(1, keyQ)
	r.flip(keyK, keyQ)
	r.commits(put(keyK, "x"))
	r.finishes(1, api.OK)
	r.reads(2, keyK) // healed: it is read and kept
	r.finishes(2, api.ErrConflict)
	r.isSerial()
}

// P18.5: of a Range that the ledger refuses nothing is kept, also where it is not the first Scan that is refused.
func TestSpoiltRange(t *testing.T) {
	r := fragile(t, "P18.5")
	r.flip(keyK, keyQ)
	r.corruptRange(1, low, high)
	r.corruptRange(1, keyK, keyK)
	r.ranges(1, key(9), high)
	r.flip(keyK, keyQ)
	r.commits(put(keyK, "x"), put(key(3), "y"))
	r.finishes(1, api.OK)
	r.isSerial()
}

// P18.5: the second Scan of a long Range is refused.
func TestSpoiltSecondScan(t *testing.T) {
	t.Parallel()
	r := long(t, 1100, 0)
	r = r.reopened(1)
	r.promise = "P18.5"
	far, id := rowKey(1050, 0), r.begin()
	r.ranges(id, low, rowKey(5, 0))
	r.flip(far, low)
	r.corruptRange(id, low, high)
	r.ranges(id, rowKey(20, 0), rowKey(1019, 0))
	r.flip(far, low)
	r.commits(put(far, "x"))
	r.finishes(id, api.OK)

	// And the second Scan of a span that is asked again.
	id = r.begin()
	r.all(id)
	r.commits()
	r.flip(far, low)
	r.corruptFinish(id)
	r.flip(far, low)
	r.finishes(id, api.OK)
}

// P18.7: a Finish that is refused in asking again leaves the transaction open, and decides nothing: behind it the Finish is OK, or meets a conflict.
func TestSpoiltFinish(t *testing.T) {
	for _, span := range []bool{false, true} {
		for _, changed := range []bool{false, true} {
			r := fragile(t, fmt.Sprintf("P18.7: a span %t, changed %t", span, changed))
			if span {
				r.ranges(1, low, key(9))
			} else {
				r.reads(1, keyK)
			}
			r.write(1, put(keyQ, "own"))
			if changed {
				r.commits(put(keyK, "x"))
			} else {
				r.commits(put(keyQ, "x"))
			}
			r.flip(keyK, keyQ)
			r.corruptFinish(1)
			r.corruptFinish(1)
			r.reads(1, keyQ)
			r.flip(keyK, keyQ)
			if changed {
				r.finishes(1, api.ErrConflict)
			} else {
				r.finishes(1, api.OK)
			}
			r.isSerial()
		}
	}
}

// P18.7: what was asked is asked again in its order: the first that differs or is refused decides.
func TestOrderDecides(t *testing.T) {
	read := func(k api.Key) func(r *rig) { return func(r *rig) { r.reads(1, k) } }
	span := func(k api.Key) func(r *rig) { return func(r *rig) { r.ranges(1, k, k) } }
	again := func(r *rig) { r.reads(1, key(9)); r.reads(1, key(9)) }
	both := func(a, b func(r *rig)) func(r *rig) { return func(r *rig) { a(r); b(r) } }
	// The leaf of k is spoilt, q has another value, 9 stands.
	for name, c := range map[string]struct {
		asks     func(r *rig)
		conflict bool
	}{
		"key, key: refused first":            {both(read(keyK), read(keyQ)), false},
		"key, key: differs first":            {both(read(keyQ), read(keyK)), true},
		"span, span: refused first":          {both(span(keyK), span(keyQ)), false},
		"span, span: differs first":          {both(span(keyQ), span(keyK)), true},
		"key, span: refused first":           {both(read(keyK), span(keyQ)), false},
		"key, span: differs first":           {both(read(keyQ), span(keyK)), true},
		"span, key: refused first":           {both(span(keyK), read(keyQ)), false},
		"span, key: differs first":           {both(span(keyQ), read(keyK)), true},
		"one that stands, refused, differs":  {both(again, both(read(keyK), read(keyQ))), false},
		"one that stands, differs, refused":  {both(again, both(read(keyQ), span(keyK))), true},
		"refused, differs, asked once more":  {both(both(read(keyK), read(keyQ)), read(keyK)), false},
		"differs, refused, asked once more":  {both(both(read(keyQ), read(keyK)), read(keyQ)), true},
		"a span over both: refused and less": {func(r *rig) { r.ranges(1, low, high) }, false},
	} {
		r := fragile(t, "P18.7: "+name)
		c.asks(r)
		r.commits(put(keyQ, "x"))
		r.flip(keyK, keyQ)
		if c.conflict {
			r.finishes(1, api.ErrConflict)
		} else {
			r.corruptFinish(1)
		}
		r.flip(keyK, keyQ)
		if !c.conflict {
			r.finishes(1, api.ErrConflict)
		}
	}
}

// P18.7: at the transaction's own version nothing is asked again: what was read may be spoilt since.
func TestOwnVersionAsksNothing(t *testing.T) {
	r := fragile(t, "P18.7, P18.12")
	r.reads(1, keyK)
	r.all(1)
	r.flip(keyK, keyQ)
	reads, tally := r.d.Counts().Reads, r.l.Tally()
	r.finishes(1, api.OK)
	if r.d.Counts().Reads != reads || r.l.Tally() != tally {
		r.fails("a page was looked at")
	}
	r.begin()
	r.flip(keyK, keyQ)
	r.reads(3, keyK)
	r.flip(keyK, keyQ)
	r.write(3, put(keyQ, "own"))
	r.finishes(3, api.OK) // k's leaf keeps its page, and nobody looks at it
	r.flip(keyK, keyQ)
	r.isSerial()
}

// P18.7: a Commit that is refused because of a spoilt page leaves the transaction open as it was.
func TestSpoiltCommit(t *testing.T) {
	r := fragile(t, "P18.7")
	r.reads(1, keyQ)
	r.write(1, put(keyK, "own"), put(key(9), "own"))
	r.flip(keyK, keyQ)
	r.corruptFinish(1)
	r.reads(1, keyK)
	r.reads(1, keyQ)
	r.write(1, del(key(9)))
	r.corruptFinish(1)
	twin := r.beside()
	id := twin.begin()
	twin.write(id, put(keyQ, "beside"))
	r.flip(keyK, keyQ)
	r.finishes(1, api.OK)
	twin.finishes(id, api.OK)
	r.isSerial()

	// What it read is kept behind the refusal.
	r = fragile(t, "P18.7")
	r.reads(1, keyQ)
	r.write(1, put(keyK, "own"))
	r.flip(keyK, keyQ)
	r.corruptFinish(1)
	r.flip(keyK, keyQ)
	r.commits(put(keyQ, "x"))
	r.finishes(1, api.ErrConflict)
	r.isSerial()
}

// forge lays another value into the leaf of a key behind the ledger's back, with a right checksum.
func (r *rig) forge(k, other api.Key, val string) {
	r.Helper()
	page := r.leafOf(k)
	load, e := node.Encode(api.Node{Kind: api.KindLeaf, Key: k, Val: []byte(val)})
	if e != api.OK {
		r.Fatal(e)
	}
	raw, e := frame.Pack(api.KindLeaf, page, load)
	if e = firstOf(e, r.d.Write(page, raw), r.d.Sync()); e != api.OK {
		r.Fatal(e)
	}
	if _, err := r.l.Get(other[:], -1); err != nil {
		r.Fatal(err)
	}
}

// P18.1, P18.11: what a question was told is kept each time that it is another thing, also where that comes from a page that somebody else wrote: a transaction that was told what does not stand does not finish.
func TestToldOtherwise(t *testing.T) {
	for _, stands := range []string{"a", "forged", "other"} {
		r := fragile(t, "P18.11: told otherwise, there is "+stands)
		tells := func(want string) {
			t.Helper()
			if a, err := r.m.Read(1, keyK[:]); err != nil || string(a.Val) != want {
				r.fails("Read = %q, %v, want %q", a.Val, err, want)
			}
		}
		tells("a")
		r.forge(keyK, keyQ, "forged")
		tells("forged")
		r.forge(keyK, keyQ, stands)
		r.commits(put(key(9), "beside"))
		if _, err := r.m.Finish(1); !isRefusal(err, "finish", 1, api.ErrConflict) {
			r.fails("Finish: %v", err)
		}
	}
}

// W5: bits are flipped in a page behind the back of open transactions: each call is refused with ErrCorrupt, or answers as if nothing were flipped and as if the refused ones had not come.
func TestFlippedBehindTheirBack(t *testing.T) {
	t.Parallel()
	whole := begun(t, "W5", 400, 2, 4)
	keys := []api.Key{keyK, keyQ, key(9), key(10), key(77)}
	for i := range 6 {
		whole.commits(put(keys[i%4], fmt.Sprint(i)), del(keys[(i+2)%4]), put(key(200), fmt.Sprint(i)))
	}
	for page := range whole.b.w.used {
		for _, room := range []int{1, 3, 4096} {
			r := whole.reopened(room)
			r.promise = fmt.Sprintf("W5: page %d, room %d", page, room)
			for id := 1; id <= 4; id++ {
				r.begin()
				r.reads(id, keys[id])
				r.write(id, put(keys[id-1], fmt.Sprint(id)))
			}
			r.commits(put(key(3), "beside"))
			if e := r.d.Flip(page, page*53%2048, 0x80000001); e != api.OK {
				t.Fatal(e)
			}
			for id := 1; id <= 4; id++ {
				for _, k := range keys {
					r.readOrCorrupt(id, k)
				}
				r.rangeOrCorrupt(id)
				r.finishOrCorrupt(id)
			}
		}
	}
}

// refusedForPages tells whether a call was refused because of a spoilt page: then the book is not told of it.
func refusedForPages(err error) bool { return ledger.Code(err) == api.ErrCorrupt }

func (r *rig) readOrCorrupt(id int, k api.Key) {
	r.Helper()
	a, err := r.m.Read(id, k[:])
	if refusedForPages(err) {
		return
	}
	if want, why := r.b.read(id, k[:]); a.Found != want.Found || string(a.Val) != string(want.Val) || !isRefusal(err, "read", id, why) {
		r.fails("Read(%d, %.4x) = %v, %v, want %v, %v", id, k, a, err, want, why)
	}
}

func (r *rig) rangeOrCorrupt(id int) {
	r.Helper()
	list, err := r.m.Range(id, low[:], high[:])
	if refusedForPages(err) {
		return
	}
	if want, why := r.b.between(id, low[:], high[:]); fmt.Sprint(list) != fmt.Sprint(want) || !isRefusal(err, "range", id, why) {
		r.fails("Range(%d) = %v, %v, want %v, %v", id, list, err, want, why)
	}
}

func (r *rig) finishOrCorrupt(id int) {
	r.Helper()
	version, err := r.m.Finish(id)
	if !refusedForPages(err) {
		if want, why := r.b.finish(id); version != want || !isRefusal(err, "finish", id, why) {
			r.fails("Finish(%d) = %d, %v, want %d, %v", id, version, err, want, why)
		}
	}
	r.tells()
}
