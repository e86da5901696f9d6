package txn_test

import (
	"bytes"
	"fmt"
	"sync"
	"testing"

	"ledger/api"
	"ledger/disk"
	"ledger/ledger"
	"ledger/txn"
)

// meeting is a transaction that does something, what is committed beside it, and how its Finish ends.
type meeting struct {
	name   string
	does   func(r *rig, id int)
	beside [][]api.Change
	ends   api.Errno
}

// The ledger of the meetings has k "a", q "", 9 "c".
func meetings() []meeting {
	readK := func(r *rig, id int) { r.reads(id, keyK) }
	readQ := func(r *rig, id int) { r.reads(id, keyQ) }
	readNone := func(r *rig, id int) { r.reads(id, key(77)) }
	span := func(lo, hi api.Key) func(r *rig, id int) { return func(r *rig, id int) { r.ranges(id, lo, hi) } }
	writes := func(c api.Change, then func(r *rig, id int)) func(r *rig, id int) {
		return func(r *rig, id int) { r.write(id, c); then(r, id) }
	}
	one := func(cs ...api.Change) [][]api.Change { return [][]api.Change{cs} }
	two := func(a, b api.Change) [][]api.Change { return [][]api.Change{{a}, {b}} }
	no, ok := api.ErrConflict, api.OK
	return []meeting{
		{"nothing asked", func(r *rig, id int) {}, one(put(keyK, "x"), del(keyQ)), ok},
		{"nobody beside", readK, nil, ok},
		{"an empty batch beside", readK, one(), ok},
		{"another key", readK, one(put(keyQ, "x"), del(key(9)), put(key(77), "x")), ok},
		{"another value", readK, one(put(keyK, "x")), no},
		{"the same value", readK, one(put(keyK, "a")), ok},
		{"deleted", readK, one(del(keyK)), no},
		{"not there and put", readNone, one(put(key(77), "x")), no},
		{"not there and put empty", readNone, one(put(key(77), "")), no},
		{"not there and deleted", readNone, one(del(key(77))), ok},
		{"empty and deleted", readQ, one(del(keyQ)), no},
		{"empty and empty", readQ, one(put(keyQ, "")), ok},
		{"there and back", readK, two(put(keyK, "x"), put(keyK, "a")), ok},
		{"gone and back", readK, two(del(keyK), put(keyK, "a")), ok},
		{"gone and back otherwise", readK, two(del(keyK), put(keyK, "b")), no},
		{"come and gone", readNone, two(put(key(77), "x"), del(key(77))), ok},
		{"asked twice", func(r *rig, id int) { r.reads(id, keyK); r.reads(id, keyK) }, one(put(keyK, "x")), no},
		{"the second of two", func(r *rig, id int) { r.reads(id, key(9)); r.reads(id, keyK) }, one(put(keyK, "x")), no},
		{"the first of two", func(r *rig, id int) { r.reads(id, keyK); r.reads(id, key(9)) }, one(put(keyK, "x")), no},
		{"a span: the low end", span(keyK, key(9)), one(put(keyK, "x")), no},
		{"a span: the high end", span(keyK, key(9)), one(put(key(9), "x")), no},
		{"a span: an end goes", span(keyK, key(9)), one(del(key(9))), no},
		{"a span: a new key within", span(keyK, key(9)), one(put(key(7), "x")), no},
		{"a span: below", span(keyK, key(9)), one(put(key(5), "x")), ok},
		{"a span: above", span(keyK, key(9)), one(put(key(10), "x"), del(keyQ)), ok},
		{"a span: one goes, one comes", span(low, high), one(del(keyK), put(key(6), "a")), no},
		{"a span: back again", span(low, high), two(put(key(77), "x"), del(key(77))), ok},
		{"a span of one key", span(keyK, keyK), one(put(keyK, "x")), no},
		{"a span of one key that is not there", span(key(77), key(77)), one(put(key(77), "x")), no},
		{"an empty span", span(key(20), key(90)), one(put(key(90), "")), no},
		{"an empty span stays", span(key(20), key(90)), one(put(key(91), ""), put(key(19), "")), ok},
		{"a span that has the key read", func(r *rig, id int) { r.reads(id, keyK); r.ranges(id, keyQ, high) }, one(put(keyQ, "x")), no},
		{"written, then read", writes(put(keyK, "own"), readK), one(put(keyK, "x")), ok},
		{"deleted, then read", writes(del(keyK), readK), one(put(keyK, "x")), ok},
		{"read, then written", func(r *rig, id int) { r.reads(id, keyK); r.write(id, put(keyK, "own")); r.reads(id, keyK) }, one(put(keyK, "x")), no},
		{"read, then written, back", func(r *rig, id int) { r.reads(id, keyK); r.write(id, put(keyK, "own")) }, two(put(keyK, "x"), put(keyK, "a")), ok},
		{"read, the same is written beside", func(r *rig, id int) { r.reads(id, keyK); r.write(id, put(keyK, "own")) }, one(put(keyK, "own")), no},
		{"written, then a span over it", writes(put(keyK, "own"), span(low, high)), one(put(keyK, "x")), no},
		{"written, then a span over it, stays", writes(put(keyK, "own"), span(low, key(9))), one(put(keyQ, "x")), ok},
		{"a new key, then a span over it", writes(put(key(77), "own"), span(low, high)), one(put(key(77), "own")), no},
		{"deleted, then a span over it", writes(del(keyK), span(low, high)), one(del(keyK)), no},
		{"the first span stands", func(r *rig, id int) { r.ranges(id, low, key(9)); r.ranges(id, low, high) }, one(put(keyQ, "x")), no},
		{"a key and a span from it that share their low end", func(r *rig, id int) { r.ranges(id, keyK, keyK); r.ranges(id, keyK, high); r.reads(id, keyK) }, one(put(keyQ, "x")), no},
	}
}

// P18.7, P18.12: finishes at the transaction's own version and behind others' commits, with writes, without, and with such as take no effect.
func TestMeetings(t *testing.T) {
	whole := begun(t, "P18.7", 400, 2, 2)
	whole.commits(put(keyK, "a"), put(keyQ, ""), put(key(9), "c"))
	for _, m := range meetings() {
		for name, more := range map[string][]api.Change{
			"no further write": nil, "a further write": {put(key(200), "more")}, "no effect": {del(key(200))}, "a write of what may be read": {put(keyK, "late"), del(keyQ)},
		} {
			r := whole.reopened(2)
			r.promise = fmt.Sprintf("P18.7: %s, %s", m.name, name)
			r.begin()
			id := r.begin()
			m.does(r, id)
			r.write(id, more...)
			for _, cs := range m.beside {
				r.commits(cs...)
			}
			from, wrote := r.b.w.last(), len(r.b.deals[id].writes) > 0
			r.finishes(id, m.ends)
			if made := r.b.w.last() > from; made != (wrote && m.ends == api.OK) {
				r.fails("P18.13: is a version made? %t", made)
			}
			r.finishes(id, api.ErrTxn)
			r.finishes(1, api.OK)
			r.isSerial()
		}
	}
}

// P18.7: what a Finish answers: the newest version without writes, the new one with writes, also with such as take no effect, for one page.
func TestVersionOfAFinish(t *testing.T) {
	r := begun(t, "P18.7", 40, 2, 2)
	finish := func(id, want, used int) {
		t.Helper()
		r.finishes(id, api.OK)
		if info, err := r.l.Info(); err != nil || info.Last != want || info.Used != used {
			r.fails("Info = %+v, %v, want version %d, %d pages", info, err, want, used)
		}
	}
	for range 6 {
		r.begin()
	}
	finish(1, 0, 2)
	r.write(2, put(keyK, "a"))
	finish(2, 1, 4)
	finish(3, 1, 4)
	r.write(4, put(keyK, "a"), del(keyQ))
	finish(4, 2, 5)
	r.write(5, put(keyQ, "b"))
	r.write(5, del(keyQ))
	finish(5, 3, 6)
	r.reads(6, keyQ)
	finish(6, 3, 6)
	r.isSerial()
}

// P18.7, R6, R8: a Finish lays down what a Commit of its batch, keys rising, lays down, whatever order the writes came in.
func TestImageOfAFinish(t *testing.T) {
	var cs []api.Change
	for i := range 64 {
		cs = append(cs, put(api.Key{byte(4 * i), byte(i)}, fmt.Sprint(i)))
		if i%5 == 0 {
			cs[i] = del(cs[i].Key)
		}
	}
	plain := begun(t, "R8", 400, 2, 2)
	plain.commits(put(cs[0].Key, "old"), put(cs[1].Key, "1"), put(keyK, "k"))
	want := plain.reopened(2)
	want.commits(cs...)
	for seed := range 8 {
		r := plain.reopened(1 + seed)
		r.begin()
		for _, i := range drawn(seed).Perm(64) {
			r.write(1, put(cs[i].Key, "earlier"), cs[i])
		}
		if seed%2 == 0 {
			r.all(1)
		}
		r.finishes(1, api.OK)
		if !bytes.Equal(r.d.Image(), want.d.Image()) {
			r.fails("the image is another one")
		}
	}
}

// P18.7, P18.12: a Finish that the disk has no room for is refused, writes nothing and leaves the transaction open as it was: it can be read, written, finished later, or meet a conflict.
func TestFull(t *testing.T) {
	fill := func() *rig {
		r := begun(t, "P18.7: ErrFull", 9, 1, 4)
		r.commits(put(keyK, "a"))
		r.begin()
		r.begin()
		r.reads(1, keyK)
		r.write(1, put(key(64), "v"), put(key(128), "v"), put(key(192), "v"))
		r.finishes(1, api.ErrFull)
		if err := r.finishText(1); err != "finish at 1: no page is left" {
			r.fails("%s", err)
		}
		r.finishes(1, api.ErrFull)
		r.all(1)
		r.reads(1, key(64))
		r.reads(2, key(64))
		return r
	}
	r := fill()
	r.write(1, del(key(64)), del(key(128)))
	r.all(1)
	r.finishes(1, api.OK)
	r.isSerial()

	r = fill()
	r.commits(put(keyK, "b")) // what 1 read is kept behind the refusal
	r.finishes(1, api.ErrConflict)
	r.finishes(2, api.OK)
	r.isSerial()

	r = fill()
	r.abort(1)
	r.write(2, put(keyQ, "b"))
	r.finishes(2, api.OK)
	r.isSerial()

	// A conflict comes ahead of ErrFull; without writes there is no need of room.
	r = begun(t, "P18.7: ErrFull", 6, 1, 4)
	r.commits(put(keyK, "a"))
	for range 4 {
		r.begin()
	}
	r.reads(1, keyK)
	r.write(1, put(keyQ, "v"), put(key(1), "w"))
	r.reads(2, keyQ)
	r.commits(put(keyK, "b"))
	r.finishes(1, api.ErrConflict)
	r.write(3, del(key(77)))
	r.finishes(3, api.ErrFull)
	r.finishes(2, api.OK)
	r.begin()
	r.reads(5, keyK)
	r.finishes(5, api.OK)
	r.isSerial()
}

// finishText tells the words of a refused Finish that changes nothing.
func (r *rig) finishText(id int) string {
	r.Helper()
	version, err := r.m.Finish(id)
	if version != 0 || err == nil {
		r.fails("Finish(%d) = %d, %v", id, version, err)
		return ""
	}
	return err.Error()
}

// P18.12: a transaction that asked nothing never meets a conflict, and one with which nobody commits between Begin and Finish neither, whatever it asked.
func TestNeverInConflict(t *testing.T) {
	r := begun(t, "P18.12", 2000, 1, 8)
	for i := range 30 {
		blind := r.begin()
		r.write(blind, put(key(i%7), fmt.Sprint(i)))
		alone := r.begin()
		r.all(alone)
		r.reads(alone, key(i%5))
		r.write(alone, put(key(i%5), "alone"), del(key(i%3)))
		r.all(alone)
		r.finishes(alone, api.OK)
		r.commits(put(key(i%7), "beside"), put(key(100+i), ""))
		r.finishes(blind, api.OK)
	}
	r.isSerial()
}

// P18.1, P18.11: two Managers over one ledger know nothing of each other's transactions, and what finishes of both is serial.
func TestTwoManagers(t *testing.T) {
	one := begun(t, "P18.1: two Managers", 400, 1, 8)
	two := one.beside()
	one.begin()
	one.begin()
	two.begin()
	one.reads(1, keyK)
	one.write(1, put(keyQ, "one"))
	two.reads(1, keyQ)
	two.write(1, put(keyK, "two"))
	two.reads(2, keyK)
	two.abort(2)
	one.finishes(1, api.OK)
	two.tells()
	two.finishes(1, api.ErrConflict)
	one.tells()
	two.begin()
	two.reads(2, keyQ)
	two.write(2, put(keyK, "again"))
	one.write(2, put(keyQ, "blind"))
	two.finishes(2, api.OK)
	one.finishes(2, api.OK)
	one.commits(del(keyK))
	two.commits(del(keyQ))
	one.isSerial()
	two.isSerial()
}

// P18.1: Managers over ledgers on two disks have nothing to do with each other.
func TestTwoLedgers(t *testing.T) {
	one, two := begun(t, "P18.1: one", 40, 1, 8), begun(t, "P18.1: two", 40, 32, 8)
	for range 2 {
		one.begin()
		two.begin()
	}
	one.reads(1, keyK)
	two.reads(1, keyK)
	two.write(2, put(keyK, "two"))
	two.finishes(2, api.OK)
	one.finishes(1, api.OK)
	two.finishes(1, api.ErrConflict)
	two.d.Crash(nil)
	two.dies(api.ErrStale)
	one.write(2, put(keyK, "one"))
	one.finishes(2, api.OK)
	one.isSerial()
}

// A Manager's promoted calls are its ledger's: they are called as the Manager's own, and At and the words are the ledger's.
func TestPromoted(t *testing.T) {
	r := begun(t, "a Manager embeds its ledger", 40, 4, 8)
	r.begin()
	r.write(1, put(keyK, "a"))
	if a, err := r.m.Get(keyK[:], -1); err != nil || a.Found {
		r.fails("an open write is seen by the ledger: %v, %v", a, err)
	}
	if v, err := r.m.Commit(raw(put(keyQ, "b"))); v != 1 || err != nil {
		r.fails("Commit = %d, %v", v, err)
	}
	if _, err := r.m.Get(keyK[:], 7); err == nil || err.Error() != "get at 7: no such version yet" {
		r.fails("Get: %v", err)
	}
	info, err := r.m.Info()
	same, why := r.l.Info()
	if info != same || err != nil || why != nil {
		r.fails("Info = %+v, %v", info, err)
	}
	if err := r.m.Live(); err != nil {
		r.fails("Live: %v", err)
	}
	other, e := disk.New(40)
	if e != api.OK {
		t.Fatal(e)
	}
	l, err := ledger.Create(other, 4, 8)
	if err != nil || manager(t, l).Ledger == r.l {
		r.fails("%v", err)
	}
}

// R7: Managers of one ledger, each in a goroutine of its own, beside others that ask the ledger: each call of the ledger is as if it came alone.
func TestSideBySide(t *testing.T) {
	r := begun(t, "R7", 2000, 2, 4)
	const workers, rounds = 6, 12
	var all sync.WaitGroup
	for i := range workers {
		all.Add(1)
		go func() {
			defer all.Done()
			m, own := txn.New(r.l), key(40*i)
			for round := range rounds {
				id, err := m.Begin()
				if err != nil {
					t.Error(err)
				}
				a, err := m.Read(id, own[:])
				if err != nil || a.Found != (round > 0) || round > 0 && string(a.Val) != fmt.Sprint(round-1) {
					t.Errorf("R7: Read = %v, %v", a, err)
				}
				if err := m.Write(id, put(own, fmt.Sprint(round))); err != nil {
					t.Error(err)
				}
				if _, err := m.Finish(id); err != nil {
					t.Errorf("R7: nobody else writes this key: %v", err)
				}
				if _, _, err := r.l.Scan(low[:], high[:], -1, 9); err != nil {
					t.Error(err)
				}
			}
		}()
	}
	all.Wait()
	want := entries{}
	for i := range workers {
		want[key(40*i)] = fmt.Sprint(rounds - 1)
	}
	r.version(workers*rounds, want)
}
