package txn_test

import (
	"bytes"
	"errors"
	"fmt"
	"math/rand"
	"slices"
	"testing"

	"ledger/api"
	"ledger/batch"
	"ledger/disk"
	"ledger/ledger"
	"ledger/txn"
)

const (
	highest = int(^uint(0) >> 1)
	lowest  = -highest - 1
)

// k and q are keys that differ in bit 0, as in the chapter's examples; low and high are the ends of all keys.
var (
	keyK = api.Key{5, 1}
	keyQ = api.Key{133, 1}
	low  = api.Key{}
	high = api.Key(bytes.Repeat([]byte{255}, 32))
)

func put(k api.Key, val string) api.Change { return api.Change{Key: k, Val: []byte(val)} }

func del(k api.Key) api.Change { return api.Change{Key: k, Del: true} }

// key tells the key of one byte, with zeros behind it.
func key(first int) api.Key { return api.Key{byte(first)} }

// raw tells the bytes of a batch.
func raw(cs ...api.Change) []byte {
	b, e := batch.Build(cs...)
	if e != api.OK {
		panic(e)
	}
	return b
}

// text makes n bytes, others for another seed.
func text(seed, n int) string {
	b := make([]byte, n)
	for i := range b {
		b[i] = byte(seed*37 + i*i + i>>3 + 1)
	}
	return string(b)
}

// words tells the text of a refusal (P16.1).
func words(e api.Errno) string {
	switch e {
	case api.ErrArg:
		return "a number that may not be"
	case api.ErrDown:
		return "the disk has no power"
	case api.ErrStale:
		return "older than the last crash"
	case api.ErrCorrupt:
		return "the disk is corrupt"
	case api.ErrFull:
		return "no page is left"
	case api.ErrMany:
		return "too many changes"
	case api.ErrLong:
		return "a value too long"
	case api.ErrRange:
		return "the low end lies above the high end"
	case api.ErrKey:
		return "not a key's bytes"
	case api.ErrTxn:
		return "no such transaction"
	case api.ErrConflict:
		return "what was read has changed"
	}
	panic(e)
}

// isRefusal tells whether an error is what Wrap makes of a call's refusal; of OK it is nil.
func isRefusal(err error, call string, at int, e api.Errno) bool {
	if e == api.OK || err == nil {
		return e == api.OK && err == nil
	}
	where := call
	if at != -1 {
		where = fmt.Sprintf("%s at %d", call, at)
	}
	var f *ledger.Fault
	return errors.As(err, &f) && error(f) == err && f.Call == call && f.At == at && f.Error() == where+": "+words(e) && ledger.Code(err) == e
}

// rig is a Manager on its ledger's disk with the book of what it is to be, and the promise that is under test: whatever fails is told under its name.
type rig struct {
	*testing.T
	promise string
	d       *disk.Disk
	l       *ledger.Ledger
	m       *txn.Manager
	b       *book
	acts    map[int][]act // of each open transaction
	order   *[]done       // all that finished, on this ledger and on those ahead of it on its disk
}

// begun makes a Manager over a fresh ledger.
func begun(t *testing.T, promise string, pages, width, room int) *rig {
	t.Helper()
	d, e := disk.New(pages)
	if e != api.OK {
		t.Fatal(e)
	}
	l, err := ledger.Create(d, width, room)
	if err != nil {
		t.Fatal(err)
	}
	w := &world{pages: pages, used: 2, maps: []entries{{}}}
	return &rig{t, promise, d, l, manager(t, l), newBook(w), map[int][]act{}, &[]done{}}
}

// manager makes a Manager, which is never nil.
func manager(t *testing.T, l *ledger.Ledger) *txn.Manager {
	t.Helper()
	m := txn.New(l)
	if m == nil || m.Ledger != l {
		t.Fatal("P18.2: New answers no Manager that embeds the ledger")
	}
	return m
}

// without makes a Manager of no ledger.
func without(t *testing.T) *rig {
	t.Helper()
	r := begun(t, "P18.2", 40, 4, 4)
	r.m = txn.New(nil)
	if r.m == nil {
		t.Fatal("P18.2: New(nil) answers nil")
	}
	r.b.none = true
	return r
}

// beside makes another Manager over the same ledger.
func (r *rig) beside() *rig {
	r.Helper()
	return &rig{r.T, r.promise, r.d, r.l, manager(r.T, r.l), newBook(r.b.w), map[int][]act{}, r.order}
}

// reopened makes a Manager over a ledger on another disk that has the same image, with a world and an order of its own.
func (r *rig) reopened(room int) *rig {
	r.Helper()
	d, e := disk.Load(r.d.Image())
	if e != api.OK {
		r.Fatal(e)
	}
	order := slices.Clone(*r.order)
	other := &rig{T: r.T, promise: r.promise, d: d, b: newBook(r.b.w.twin()), order: &order}
	other.opens(room)
	return other
}

// opens opens the disk anew, with a new Manager.
func (r *rig) opens(room int) {
	r.Helper()
	l, err := ledger.Open(r.d, room)
	if err != nil {
		r.Fatalf("%s: Open: %v", r.promise, err)
	}
	r.l, r.m = l, manager(r.T, l)
	r.b.w.dead = api.OK
	r.b = newBook(r.b.w)
	r.acts = map[int][]act{}
	r.tells()
}

// fails tells what went wrong.
func (r *rig) fails(form string, args ...any) {
	r.Helper()
	r.Errorf("%s: %s", r.promise, fmt.Sprintf(form, args...))
}

// marks is what no call but one that commits may change.
type marks struct {
	writes, syncs, open, epoch int
	power                      bool
	info                       api.Info
}

func (r *rig) marks() marks {
	c := r.d.Counts()
	info, _ := r.l.Info()
	return marks{c.Writes, c.Syncs, c.Open, r.d.Epoch(), r.d.Power(), info}
}

// quiet asks that a call leaves the ledger and its disk as they were.
func (r *rig) quiet(call func()) {
	r.Helper()
	before := r.marks()
	call()
	if now := r.marks(); now != before {
		r.fails("something has changed: %+v, from %+v", now, before)
	}
}

// tells asks that Open tells what the book does (P18.9).
func (r *rig) tells() {
	r.Helper()
	if got := r.m.Open(); !slices.Equal(got, r.b.open()) {
		r.fails("P18.9: Open() = %v, want %v", got, r.b.open())
	}
}

// begin asks of a Begin what the book says.
func (r *rig) begin() int {
	r.Helper()
	want, why := r.b.begin()
	r.quiet(func() {
		r.Helper()
		if id, err := r.m.Begin(); id != want || !isRefusal(err, "begin", -1, why) {
			r.fails("Begin() = %d, %v, want %d, %v", id, err, want, why)
		}
	})
	r.tells()
	return want
}

// read asks of a Read what the book says.
func (r *rig) read(id int, k []byte) {
	r.Helper()
	want, why := r.b.read(id, k)
	r.quiet(func() {
		r.Helper()
		a, err := r.m.Read(id, k)
		if a.Found != want.Found || string(a.Val) != string(want.Val) || !a.Found && a.Val != nil || !isRefusal(err, "read", id, why) {
			r.fails("Read(%d, %.4x) = %t, %q, %v, want %t, %q, %v", id, k, a.Found, a.Val, err, want.Found, want.Val, why)
		}
		if err == nil && len(k) == 32 {
			one := act{lo: api.Key(k), hi: api.Key(k), told: "[]"}
			if a.Found {
				one.told = fmt.Sprint([]api.Entry{{Key: one.lo, Val: a.Val}})
			}
			r.acts[id] = append(r.acts[id], one)
		}
	})
	r.tells()
}

// reads asks of a Read of a key what the book says.
func (r *rig) reads(id int, k api.Key) {
	r.Helper()
	r.read(id, k[:])
}

// between asks of a Range what the book says.
func (r *rig) between(id int, lo, hi []byte) {
	r.Helper()
	want, why := r.b.between(id, lo, hi)
	r.quiet(func() {
		r.Helper()
		list, err := r.m.Range(id, lo, hi)
		if fmt.Sprint(list) != fmt.Sprint(want) || why != api.OK && list != nil || !isRefusal(err, "range", id, why) {
			r.fails("Range(%d, %.4x, %.4x) = %d entries, %v, want %d, %v", id, lo, hi, len(list), err, len(want), why)
		}
		if err == nil && len(lo) == 32 && len(hi) == 32 {
			r.acts[id] = append(r.acts[id], act{lo: api.Key(lo), hi: api.Key(hi), told: fmt.Sprint(list)})
		}
	})
	r.tells()
}

// ranges asks of a Range between keys what the book says.
func (r *rig) ranges(id int, lo, hi api.Key) {
	r.Helper()
	r.between(id, lo[:], hi[:])
}

// all asks of a Range over all keys what the book says.
func (r *rig) all(id int) {
	r.Helper()
	r.ranges(id, low, high)
}

// write asks of Writes what the book says.
func (r *rig) write(id int, cs ...api.Change) {
	r.Helper()
	for _, c := range cs {
		why := r.b.write(id, c)
		r.quiet(func() {
			r.Helper()
			err := r.m.Write(id, c)
			if !isRefusal(err, "write", id, why) {
				r.fails("Write(%d, %.4x %t %d bytes) = %v, want %v", id, c.Key, c.Del, len(c.Val), err, why)
			}
			if err == nil {
				own := api.Change{Key: c.Key, Del: c.Del, Val: slices.Clone(c.Val)}
				r.acts[id] = append(r.acts[id], act{change: &own})
			}
		})
	}
	r.tells()
}

// finish asks of a Finish what the book says, and tells why it was refused.
func (r *rig) finish(id int) api.Errno {
	r.Helper()
	before, from, used := r.d.Counts(), r.b.w.last(), r.b.w.used
	want, why := r.b.finish(id)
	call := func() {
		r.Helper()
		if version, err := r.m.Finish(id); version != want || !isRefusal(err, "finish", id, why) {
			r.fails("Finish(%d) = %d, %v, want %d, %v", id, version, err, want, why)
		}
	}
	if r.b.w.last() == from {
		r.quiet(call)
	} else {
		call()
		r.committed(before, r.b.w.used-used)
	}
	if why == api.OK {
		*r.order = append(*r.order, done{r.acts[id], r.b.w.last() > from})
	}
	if why == api.OK || why == api.ErrConflict {
		delete(r.acts, id)
	}
	r.tells()
	return why
}

// finishes asks that a Finish is refused as it is said, or is OK.
func (r *rig) finishes(id int, why api.Errno) {
	r.Helper()
	if e := r.finish(id); e != why {
		r.fails("the book refuses Finish(%d) with %v, want %v", id, e, why)
	}
}

// committed asks that just one version of so many pages was written.
func (r *rig) committed(before api.Counts, pages int) {
	r.Helper()
	if now := r.d.Counts(); now.Writes-before.Writes != pages+1 || now.Syncs-before.Syncs != 2 || now.Open != 0 {
		r.fails("P18.13: one version of %d pages: %+v, from %+v", pages, now, before)
	}
	info, err := r.l.Info()
	if err != nil || info.Last != r.b.w.last() || info.Used != r.b.w.used || info.Keys != len(r.b.w.newest()) {
		r.fails("P18.13: Info = %+v, %v, want version %d, %d pages, %d keys", info, err, r.b.w.last(), r.b.w.used, len(r.b.w.newest()))
	}
}

// abort asks of an Abort what the book says.
func (r *rig) abort(id int) {
	r.Helper()
	why := r.b.abort(id)
	r.quiet(func() {
		r.Helper()
		if err := r.m.Abort(id); !isRefusal(err, "abort", id, why) {
			r.fails("Abort(%d) = %v, want %v", id, err, why)
		}
	})
	if why == api.OK {
		delete(r.acts, id)
	}
	r.tells()
}

// commits lets the ledger itself, or the Manager, commit a batch.
func (r *rig) commits(cs ...api.Change) {
	r.Helper()
	call := r.m.Commit
	if len(*r.order)%2 == 1 {
		call = r.l.Commit
	}
	before, used := r.d.Counts(), r.b.w.used
	r.b.w.commit(cs)
	if version, err := call(raw(cs...)); version != r.b.w.last() || err != nil {
		r.fails("Commit = %d, %v, want %d", version, err, r.b.w.last())
	}
	r.committed(before, r.b.w.used-used)
	r.came(cs)
	r.tells()
}

// came lays a direct Commit into the order.
func (r *rig) came(cs []api.Change) {
	var acts []act
	for _, c := range cs {
		acts = append(acts, act{change: &c})
	}
	*r.order = append(*r.order, done{acts, true})
}

// holds asks that every version is the map that it is to be.
func (r *rig) holds() {
	r.Helper()
	for v, m := range r.b.w.maps {
		r.version(v, m)
	}
}

// version asks that a version is a map.
func (r *rig) version(v int, m entries) {
	r.Helper()
	list, more, err := r.l.Scan(low[:], high[:], v, 1000)
	want := m.between(low, high)
	if err != nil || more != (len(want) > 1000) || fmt.Sprint(list) != fmt.Sprint(want[:min(1000, len(want))]) {
		r.fails("version %d has %d entries, %v, want %d", v, len(list), err, len(want))
	}
}

// isSerial asks what P18.11 and P18.13 say of all that finished on this disk, by the answers alone: each read stands at its place of the order, and the versions are those that the order makes.
func (r *rig) isSerial() {
	r.Helper()
	made, wrong := serial(*r.order)
	if wrong != "" {
		r.fails("P18.11: %s", wrong)
		return
	}
	for v := 1; v < len(made); v++ {
		r.version(v, made[v])
	}
	if info, err := r.l.Info(); err != nil || info.Last != len(made)-1 {
		r.fails("P18.13: the newest version is %d, %v, want %d", info.Last, err, len(made)-1)
	}
}

// drawn tells a source of numbers that is the same each time.
func drawn(seed int) *rand.Rand { return rand.New(rand.NewSource(int64(seed))) }
