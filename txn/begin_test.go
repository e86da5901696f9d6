package txn_test

import (
	"fmt"
	"testing"

	"ledger/api"
)

// P18.1, P18.3: numbers rise by one, none is used again, whichever way a transaction ends; a refused Begin uses none.
func TestNumbers(t *testing.T) {
	r := begun(t, "P18.1", 400, 1, 8)
	for want := 1; want <= 200; want++ {
		if id := r.begin(); id != want {
			r.fails("Begin() = %d, want %d", id, want)
		}
		switch want % 4 {
		case 0:
			r.finishes(want, api.OK)
		case 1:
			r.abort(want)
		case 2:
			r.reads(want, keyK)
			r.commits(put(keyK, fmt.Sprint(want)))
			r.finishes(want, api.ErrConflict)
		case 3:
			r.write(want, put(keyQ, "v"))
			r.finishes(want, api.OK)
		}
	}
	for range 32 {
		r.begin()
	}
	for range 5 {
		if r.begin() != 0 {
			r.fails("33 transactions are open")
		}
	}
	r.abort(210)
	if id := r.begin(); id != 233 {
		r.fails("Begin() = %d, want 233", id)
	}
}

// P18.3: 31 and 32 transactions may be open, 33 may not; each way of ending one makes room for the next.
func TestManyOpen(t *testing.T) {
	r := begun(t, "P18.3", 400, 1, 8)
	for range 32 {
		r.begin()
	}
	refused := func() {
		t.Helper()
		if id, err := r.m.Begin(); id != 0 || err == nil || err.Error() != "begin: too many changes" {
			r.fails("of 32: Begin() = %d, %v", id, err)
		}
		r.tells()
	}
	refused()
	for i, end := range []func(id int){
		func(id int) { r.abort(id) },
		func(id int) { r.finishes(id, api.OK) },
		func(id int) { r.write(id, put(keyK, "v")); r.finishes(id, api.OK) },
		func(id int) { r.reads(id, keyK); r.finishes(id, api.ErrConflict) },
	} {
		end(5 + 7*i)
		if len(r.m.Open()) != 31 {
			r.fails("%d are open", len(r.m.Open()))
		}
		if id := r.begin(); id != 33+i {
			r.fails("Begin() = %d, want %d", id, 33+i)
		}
		refused()
	}
	r.isSerial()
}

// P18.3: a transaction begins at the newest version, whoever made it.
func TestBeginsAtTheNewest(t *testing.T) {
	r := begun(t, "P18.3", 400, 1, 8)
	other := r.beside()
	for i := range 6 {
		id := r.begin()
		r.reads(id, keyK)
		r.all(id)
		switch i % 3 {
		case 0:
			r.commits(put(keyK, fmt.Sprint(i)))
		case 1:
			two := other.begin()
			other.write(two, put(keyK, fmt.Sprint(i)))
			other.finishes(two, api.OK)
		case 2:
			two := r.begin()
			r.write(two, del(keyK))
			r.finishes(two, api.OK)
		}
	}
	for id := 1; id <= 6; id++ {
		r.reads(id, keyK)
		r.all(id)
	}
}

// P18.6: values of 128 bytes may be, of 129 not; beside a delete any.
func TestValues(t *testing.T) {
	r := begun(t, "P18.6", 400, 32, 8)
	r.begin()
	r.write(1, put(keyK, text(1, 128)), put(keyK, text(2, 129)))
	r.reads(1, keyK)
	r.all(1)
	r.write(1, put(keyQ, ""), api.Change{Key: key(9), Del: true, Val: []byte(text(3, 129))}, put(key(9), text(4, 130)))
	r.all(1)
	r.finishes(1, api.OK)
	if a, err := r.l.Get(keyK[:], 1); err != nil || string(a.Val) != text(1, 128) {
		r.fails("version 1 holds %d bytes, %v", len(a.Val), err)
	}
	r.begin()
	r.write(2, api.Change{Key: keyK, Del: true, Val: []byte(text(3, 5000))})
	r.reads(2, keyK)
	if a, err := r.m.Read(2, keyK[:]); a.Found || a.Val != nil || err != nil {
		r.fails("behind a delete: %v, %v", a, err)
	}
	r.finishes(2, api.OK)
	r.isSerial()
}

// P18.6: 64 keys may be written, a 65th not; each of the 64 may be written again, also the other way, and is one still.
func TestManyWrites(t *testing.T) {
	r := begun(t, "P18.6", 800, 1, 8)
	r.commits(put(key(1), "old"))
	r.begin()
	for i := range 64 {
		if i%3 == 0 {
			r.write(1, del(key(4*i)))
		} else {
			r.write(1, put(key(4*i), "v"))
		}
		r.write(1, put(key(4*i), "w"))
		if i%5 == 0 {
			r.write(1, del(key(4*i)))
		}
	}
	for _, c := range []api.Change{put(key(1), "65"), del(key(1)), put(key(2), ""), del(keyQ)} {
		if err := r.m.Write(1, c); err == nil || err.Error() != "write at 1: too many changes" {
			r.fails("a 65th: %v", err)
		}
		r.reads(1, c.Key)
	}
	r.all(1)
	for i := range 64 {
		r.write(1, put(key(4*i), fmt.Sprint(i)))
	}
	r.write(1, del(key(8)), put(key(1), "65"))
	r.all(1)
	r.begin()
	r.write(2, put(key(1), "two")) // the bound is each transaction's own
	r.finishes(1, api.OK)
	if info, err := r.l.Info(); err != nil || info.Keys != 64 { // 63 of 64, and key 1
		r.fails("Info = %+v, %v", info, err)
	}
	r.finishes(2, api.OK)
	r.isSerial()
}

// P18.9: Open tells the numbers rising, whatever order they began and ended in.
func TestOpen(t *testing.T) {
	r := begun(t, "P18.9", 40, 1, 8)
	n := drawn(9)
	if got := r.m.Open(); len(got) != 0 {
		r.fails("Open() = %v", got)
	}
	for range 300 {
		if open := r.b.open(); len(open) > 0 && n.Intn(5) < 2 {
			r.abort(open[n.Intn(len(open))])
		} else {
			r.begin()
		}
		for range 3 {
			r.tells()
		}
	}
}

// P18.8: what an aborted transaction wrote is forgotten, and its number with it.
func TestAbort(t *testing.T) {
	r := begun(t, "P18.8", 40, 1, 8)
	r.begin()
	r.begin()
	r.write(1, put(keyK, "never"), del(keyQ))
	r.abort(1)
	r.abort(1)
	r.reads(1, keyK)
	r.all(1)
	r.write(1, put(keyK, "again"))
	r.finishes(1, api.ErrTxn)
	r.reads(2, keyK)
	r.all(2)
	r.finishes(2, api.OK)
	r.begin()
	r.reads(3, keyK)
	r.isSerial()
	if info, err := r.l.Info(); err != nil || info.Last != 0 {
		r.fails("Info = %+v, %v", info, err)
	}
}
