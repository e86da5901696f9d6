package ledger_test

import (
	"bytes"
	"errors"
	"fmt"
	"slices"
	"strings"
	"testing"

	"ledger/api"
	"ledger/batch"
	"ledger/disk"
	"ledger/file"
	"ledger/frame"
	"ledger/index"
	"ledger/ledger"
	"ledger/store"
	"ledger/tree"
)

const (
	highest = int(^uint(0) >> 1)
	lowest  = -highest - 1
)

// The keys of the chapter's examples: m differs from k in bit 255 alone, q in bit 0.
var (
	keyK = api.Key(bytes.Repeat([]byte{7}, 32))
	keyM = flipped(keyK, 255)
	keyQ = flipped(keyK, 0)
	low  = api.Key{}
	high = keyOf(strings.Repeat("1", 256))
)

func put(k api.Key, val string) api.Change { return api.Change{Key: k, Val: []byte(val)} }

func del(k api.Key) api.Change { return api.Change{Key: k, Del: true} }

// raw tells the bytes of a batch.
func raw(cs ...api.Change) []byte {
	b, e := batch.Build(cs...)
	if e != api.OK {
		panic(e)
	}
	return b
}

// flipped tells a key with one bit turned.
func flipped(k api.Key, bit int) api.Key {
	k[bit/8] ^= 128 >> (bit % 8)
	return k
}

// text makes n bytes, others for another seed.
func text(seed, n int) []byte {
	b := make([]byte, n)
	for i := range b {
		b[i] = byte(seed*37 + i*i + i>>3 + 1)
	}
	return b
}

// fixedError is one row of the table of errors.
type fixedError struct {
	number api.Errno
	value  error
	text   string
}

// fixedErrors is the table of P16.1, numbers rising.
var fixedErrors = []fixedError{
	{1, ledger.ErrArg, "a number that may not be"},
	{2, ledger.ErrDown, "the disk has no power"},
	{3, ledger.ErrStale, "older than the last crash"},
	{4, ledger.ErrCorrupt, "the disk is corrupt"},
	{5, ledger.ErrFull, "no page is left"},
	{30, ledger.ErrForm, "no batch"},
	{31, ledger.ErrMany, "too many changes"},
	{32, ledger.ErrLong, "a value too long"},
	{33, ledger.ErrDup, "one key twice"},
	{55, ledger.ErrBlank, "nothing is laid here"},
	{60, ledger.ErrTaken, "there is something already"},
	{110, ledger.ErrRange, "the low end lies above the high end"},
	{151, ledger.ErrVersion, "no such version yet"},
	{152, ledger.ErrGone, "a version below the first"},
	{160, ledger.ErrKey, "not a key's bytes"},
	{180, ledger.ErrTxn, "no such transaction"},
	{181, ledger.ErrConflict, "what was read has changed"},
	{190, ledger.ErrStream, "no stream"},
	{191, ledger.ErrBase, "the stream begins elsewhere"},
	{192, ledger.ErrMismatch, "another root than the stream says"},
}

// textOf tells what a refusal is to say.
func textOf(call string, at int, e api.Errno) string {
	where := call
	if at != -1 {
		where = fmt.Sprintf("%s at %d", call, at)
	}
	for _, row := range fixedErrors {
		if row.number == e {
			return where + ": " + row.text
		}
	}
	panic(e)
}

// isRefusal tells whether an error is what Wrap makes of a call's refusal; of OK it is nil.
func isRefusal(err error, call string, at int, e api.Errno) bool {
	if e == api.OK || err == nil {
		return e == api.OK && err == nil
	}
	var f *ledger.Fault
	return errors.As(err, &f) && error(f) == err && f.Call == call && f.At == at && f.Error() == textOf(call, at, e) && ledger.Code(err) == e
}

// rig is a ledger on its disk with the model of what it is to be, and the promise that is under test: whatever fails is told under its name.
type rig struct {
	*testing.T
	promise string
	d       *disk.Disk
	l       *ledger.Ledger
	m       *model
	room    int
}

// blank makes a disk.
func blank(t *testing.T, pages int) *disk.Disk {
	t.Helper()
	d, e := disk.New(pages)
	if e != api.OK {
		t.Fatal(e)
	}
	return d
}

// begun makes a fresh ledger.
func begun(t *testing.T, promise string, pages, width, room int) *rig {
	t.Helper()
	d := blank(t, pages)
	l, err := ledger.Create(d, width, room)
	if err != nil || l == nil {
		t.Fatalf("%s: Create: %v", promise, err)
	}
	m := &model{width: width, pages: pages, used: 2, maps: []entries{{}}}
	return &rig{t, promise, d, l, m, room}
}

// based makes a ledger whose first version is another one than 0, as a stream's import lays it down.
func based(t *testing.T, promise string, pages, width, room, from int, base entries) *rig {
	t.Helper()
	d := blank(t, pages)
	s := stored(t, d, width)
	var cs []api.Change
	for _, k := range base.rising() {
		cs = append(cs, put(k, base[k]))
	}
	root, e := tree.Update(s, 0, cs)
	if e != api.OK {
		t.Fatal(e)
	}
	head, e := index.Add(s, 0, api.Record{Version: from, First: from, Root: root, Count: len(base), Sum: base.sum(width, "")})
	if e != api.OK {
		t.Fatal(e)
	}
	if e := s.Flush(head); e != api.OK {
		t.Fatal(e)
	}
	m := &model{width: width, pages: pages, used: s.Super().Mark, first: from, maps: []entries{base}, top: from == 1<<30}
	r := &rig{t, promise, d, nil, m, room}
	r.open(room)
	return r
}

// stored lays an empty file onto a disk and makes a store over it, with which pages can be laid that no ledger lays.
func stored(t *testing.T, d *disk.Disk, width int) *store.Store {
	t.Helper()
	if e := file.Format(d, width); e != api.OK {
		t.Fatal(e)
	}
	f, e := file.Open(d)
	if e != api.OK {
		t.Fatal(e)
	}
	s, e := store.New(f, 4096)
	if e != api.OK {
		t.Fatal(e)
	}
	return s
}

// loaded makes a disk of an image.
func loaded(t *testing.T, image []byte) *disk.Disk {
	t.Helper()
	d, e := disk.Load(image)
	if e != api.OK {
		t.Fatal(e)
	}
	return d
}

// open opens the rig's disk anew; it must be taken.
func (r *rig) open(room int) {
	r.Helper()
	l, err := ledger.Open(r.d, room)
	if err != nil || l == nil {
		r.Fatalf("%s: Open: %v", r.promise, err)
	}
	r.l, r.room = l, room
	r.m.dead = api.OK
}

// reopened makes a ledger over another disk that has the same image, with a model of its own.
func (r *rig) reopened(room int) *rig {
	r.Helper()
	other := &rig{r.T, r.promise, loaded(r.T, r.d.Image()), nil, r.m.twin(), room}
	other.open(room)
	return other
}

// generation lays superblocks of another generation onto a disk with the same image, and opens it.
func (r *rig) generation(newest int) *rig {
	r.Helper()
	image := r.d.Image()
	super, e := frame.Choose(image[:256], image[256:512])
	if e != api.OK {
		r.Fatal(e)
	}
	for _, g := range []int{newest - 1, newest} {
		super.Generation = g
		slot, e := frame.PackSuper(super)
		if e != api.OK {
			r.Fatal(e)
		}
		copy(image[256*(g%2):], slot)
	}
	other := &rig{r.T, r.promise, loaded(r.T, image), nil, r.m.twin(), r.room}
	other.m.top = other.m.top || newest == 1<<40
	other.open(r.room)
	return other
}

// spoil turns bits of one page of a disk with the same image; what looks at it is to be refused.
func (r *rig) spoil(page, bit int, pattern uint32) *rig {
	r.Helper()
	other := &rig{r.T, fmt.Sprintf("%s: page %d is spoilt", r.promise, page), loaded(r.T, r.d.Image()), nil, r.m.twin(), 1}
	other.m.laid = read(r.d.Image())
	other.m.laid.spoilt = page
	if e := other.d.Flip(page, bit, pattern); e != api.OK {
		r.Fatal(e)
	}
	return other
}

// fails tells what went wrong.
func (r *rig) fails(form string, args ...any) {
	r.Helper()
	r.Errorf("%s: %s", r.promise, fmt.Sprintf(form, args...))
}

// state is what no question and no refused call may change.
type state struct {
	writes, syncs, open, epoch int
	power                      bool
	info                       api.Info
	dead                       string
}

func (r *rig) state() state {
	c := r.d.Counts()
	info, err := r.l.Info()
	s := state{c.Writes, c.Syncs, c.Open, r.d.Epoch(), r.d.Power(), info, ""}
	if err != nil {
		s.dead = err.Error()
	}
	return s
}

// quiet asks that calls change nothing, and keep to the bounds of the tally.
func (r *rig) quiet(calls func()) {
	r.Helper()
	before, was := r.state(), r.l.Tally()
	calls()
	if now := r.state(); now != before {
		r.fails("something has changed: %+v, from %+v", now, before)
	}
	r.tallies(was)
}

// tallies asks of the cache's tally what P16.17 says, and that its counts have not fallen.
func (r *rig) tallies(was api.Tally) {
	r.Helper()
	now := r.l.Tally()
	if now.Clean > r.room || now.Clean < 0 || now.Held != 0 {
		r.fails("P16.17: the tally is %+v, the room %d", now, r.room)
	}
	if now.Hits < was.Hits || now.Misses < was.Misses || now.Gone < was.Gone {
		r.fails("P16.17: the tally has fallen to %+v, from %+v", now, was)
	}
}

// parsed tells the changes of a batch's bytes, or why they are none.
func parsed(b []byte) ([]api.Change, api.Errno) {
	cs, _, e := batch.Parse(b)
	return cs, e
}

// commit asks of a Commit what the model says; it tells whether it was taken.
func (r *rig) commit(b []byte) bool {
	r.Helper()
	cs, form := parsed(b)
	why, at := r.m.committed(cs, form), r.m.last()+1
	if why != api.OK {
		r.quiet(func() {
			r.Helper()
			if v, err := r.l.Commit(b); v != 0 || !isRefusal(err, "commit", at, why) {
				r.fails("Commit = %d, %v, want 0, %v at %d", v, err, why, at)
			}
		})
		return false
	}
	before, tally, pages := r.d.Counts(), r.l.Tally(), cost(r.m.newest(), r.m.newest().behind(cs))+1
	v, err := r.l.Commit(b)
	if v != at || err != nil {
		r.fails("Commit = %d, %v, want %d", v, err, at)
		return false
	}
	r.m.commit(cs)
	if now := r.d.Counts(); now.Writes-before.Writes != pages+1 || now.Syncs-before.Syncs != 2 || now.Open != 0 {
		r.fails("P16.9: a Commit of %d pages: %+v, from %+v", pages, now, before)
	}
	r.tallies(tally)
	if r.l.Tally().Clean < 1 {
		r.fails("P16.17: nothing is clean behind a Commit")
	}
	if r.m.laid != nil {
		r.m.laid.image = slices.Concat(r.d.Image())
		r.m.laid.head = r.m.used - 1
	}
	return true
}

// commits asks that a batch of changes is taken.
func (r *rig) commits(cs ...api.Change) {
	r.Helper()
	if !r.commit(raw(cs...)) {
		r.fails("a batch of %d changes is not taken", len(cs))
	}
}

// preview asks of a Preview what the model says.
func (r *rig) preview(b []byte) {
	r.Helper()
	cs, form := parsed(b)
	why, at := r.m.drafted(cs, form), r.m.last()+1
	var sum api.Digest
	pages := 0
	if why == api.OK {
		next := r.m.newest().behind(cs)
		sum, pages = next.sum(r.m.width, ""), cost(r.m.newest(), next)+1
	}
	r.quiet(func() {
		r.Helper()
		if got, n, err := r.l.Preview(b); got != sum || n != pages || !isRefusal(err, "preview", at, why) {
			r.fails("Preview = %x, %d, %v, want %x, %d, %v at %d", got, n, err, sum, pages, why, at)
		}
	})
}

// get asks of a Get what the model says.
func (r *rig) get(key []byte, version int) {
	r.Helper()
	var want api.Answer
	why := r.m.keyed(key, version)
	if why == api.OK {
		val, found := r.m.at(version)[api.Key(key)]
		want = api.Answer{Found: found, Val: []byte(val)}
	}
	a, err := r.l.Get(key, version)
	if a.Found != want.Found || !bytes.Equal(a.Val, want.Val) || !a.Found && a.Val != nil || !isRefusal(err, "get", version, why) {
		r.fails("Get(%x, %d) = %t, %q, %v, want %t, %q, %v", key, version, a.Found, a.Val, err, want.Found, want.Val, why)
	}
}

// root asks of a Root what the model says.
func (r *rig) root(version int) {
	r.Helper()
	var want api.Digest
	why := r.m.rooted(version)
	if why == api.OK {
		want = r.m.at(version).sum(r.m.width, "")
	}
	if sum, err := r.l.Root(version); sum != want || !isRefusal(err, "root", version, why) {
		r.fails("Root(%d) = %x, %v, want %x, %v", version, sum, err, want, why)
	}
}

// prove asks of a Prove what the model says.
func (r *rig) prove(key []byte, version int) {
	r.Helper()
	var want []byte
	why := r.m.keyed(key, version)
	if why == api.OK {
		want = r.m.at(version).prove(r.m.width, api.Key(key))
	}
	if p, err := r.l.Prove(key, version); !bytes.Equal(p, want) || why != api.OK && p != nil || !isRefusal(err, "prove", version, why) {
		r.fails("Prove(%x, %d) = %x, %v, want %x, %v", key, version, p, err, want, why)
	}
}

// span asks of a Span what the model says.
func (r *rig) span(lo, hi []byte, version int) {
	r.Helper()
	var want []byte
	why := r.m.spanned(lo, hi, version)
	if why == api.OK {
		want = r.m.at(version).span(r.m.width, "", api.Key(lo), api.Key(hi))
	}
	if p, err := r.l.Span(lo, hi, version); !bytes.Equal(p, want) || why != api.OK && p != nil || !isRefusal(err, "span", version, why) {
		r.fails("Span(%x, %x, %d) = %x, %v, want %x, %v", lo, hi, version, p, err, want, why)
	}
}

// sameEntries tells whether two lists show the same; nil and empty ones do.
func sameEntries(a, b []api.Entry) bool {
	return slices.EqualFunc(a, b, func(x, y api.Entry) bool { return x.Key == y.Key && bytes.Equal(x.Val, y.Val) })
}

// sameChanges tells whether two lists of changes are the same; a delete's value is empty.
func sameChanges(a, b []api.Change) bool {
	return slices.EqualFunc(a, b, func(x, y api.Change) bool {
		return x.Key == y.Key && x.Del == y.Del && bytes.Equal(x.Val, y.Val)
	})
}

// scan asks of a Scan what the model says.
func (r *rig) scan(lo, hi []byte, version, limit int) {
	r.Helper()
	var want []api.Entry
	why := r.m.scanned(lo, hi, version, limit)
	more := false
	if why == api.OK {
		want = r.m.at(version).between(api.Key(lo), api.Key(hi))
		more = len(want) > limit
		want = want[:min(limit, len(want))]
	}
	list, rest, err := r.l.Scan(lo, hi, version, limit)
	if !sameEntries(list, want) || rest != more || why != api.OK && list != nil || !isRefusal(err, "scan", version, why) {
		r.fails("Scan(%x, %x, %d, %d) = %d entries, %t, %v, want %d, %t, %v", lo, hi, version, limit, len(list), rest, err, len(want), more, why)
	}
}

// diff asks of a Diff what the model says.
func (r *rig) diff(v, w int) {
	r.Helper()
	var want []api.Change
	at, why := r.m.differed(v, w)
	if why == api.OK {
		want = r.m.at(v).diff(r.m.at(w))
	}
	cs, err := r.l.Diff(v, w)
	if !sameChanges(cs, want) || why != api.OK && cs != nil || !isRefusal(err, "diff", at, why) {
		r.fails("Diff(%d, %d) = %d changes, %v, want %d, %v at %d", v, w, len(cs), err, len(want), why, at)
	}
}

// info asks of Info and of Live what the model says.
func (r *rig) info() {
	r.Helper()
	var want api.Info
	if r.m.dead == api.OK {
		want = r.m.info()
	}
	if got, err := r.l.Info(); got != want || !isRefusal(err, "info", -1, r.m.dead) {
		r.fails("Info = %+v, %v, want %+v, %v", got, err, want, r.m.dead)
	}
	if err := r.l.Live(); !isRefusal(err, "live", -1, r.m.dead) {
		r.fails("P16.23: Live = %v, want %v", err, r.m.dead)
	}
}

// versions tells the versions that are asked for: all that there are, and those beside them.
func (r *rig) versions() (all []int) {
	all = []int{-2, -1, 0, r.m.first - 1, r.m.last() + 1, highest, lowest}
	for v := r.m.first; v <= r.m.last(); v++ {
		all = append(all, v)
	}
	slices.Sort(all)
	return slices.Compact(all)
}

// ask asks all questions for some keys at a version.
func (r *rig) ask(version int, keys ...api.Key) {
	r.Helper()
	r.root(version)
	for _, k := range keys {
		r.get(k[:], version)
		r.prove(k[:], version)
		for _, m := range keys {
			r.span(k[:], m[:], version)
			for _, limit := range []int{0, 1, 1000} {
				r.scan(k[:], m[:], version, limit)
			}
		}
	}
}

// asks asks all questions for some keys, at all versions and those beside them.
func (r *rig) asks(keys ...api.Key) {
	r.Helper()
	r.quiet(func() {
		r.Helper()
		r.info()
		for _, v := range r.versions() {
			r.ask(v, keys...)
			for _, w := range r.versions() {
				r.diff(v, w)
			}
		}
	})
}

// wrongBatches are bytes that are no batch, with why.
var wrongBatches = map[string]api.Errno{
	"":          api.ErrForm,
	"\x00":      api.ErrForm,
	"\x00\x00x": api.ErrForm,
	"\x01\x00":  api.ErrForm,
	"\x41\x00":  api.ErrMany,
	"\x01\x00\x01" + string(keyK[:]) + "\x81\x00":                     api.ErrLong,
	"\x02\x00\x02" + string(keyK[:]) + "\x02" + string(keyK[:]):       api.ErrDup,
	"\x02\x00\x02" + string(keyK[:]) + "\x02" + string(keyK[:]) + "x": api.ErrForm,
}

// dies asks that every call is refused, whatever else is wrong with it, and that nothing changes.
func (r *rig) dies(why api.Errno) {
	r.Helper()
	r.m.dead = why
	before := r.d.Counts()
	r.info()
	some := [][]byte{nil, keyK[:31], keyM[:], keyK[:], append(keyK[:], 1)}
	for _, v := range []int{lowest, -2, -1, 0, r.m.first - 1, r.m.last(), r.m.last() + 1, highest} {
		r.root(v)
		for _, w := range []int{-2, -1, 0, r.m.last() + 1} {
			r.diff(v, w)
		}
		for _, lo := range some {
			r.get(lo, v)
			r.prove(lo, v)
			for _, hi := range some {
				r.span(lo, hi, v)
				for _, limit := range []int{-1, 0, 1000, 1001} {
					r.scan(lo, hi, v, limit)
				}
			}
		}
	}
	at := r.m.last() + 1
	for _, b := range append(someBatches(), raw(), raw(put(keyK, "dead")), raw(del(keyK), put(keyM, "dead"))) {
		if v, err := r.l.Commit(b); v != 0 || !isRefusal(err, "commit", at, why) {
			r.fails("Commit = %d, %v, want %v", v, err, why)
		}
		if sum, n, err := r.l.Preview(b); sum != (api.Digest{}) || n != 0 || !isRefusal(err, "preview", at, why) {
			r.fails("Preview = %x, %d, %v, want %v", sum, n, err, why)
		}
	}
	if now := r.d.Counts(); now != before {
		r.fails("something was read or written: %+v, from %+v", now, before)
	}
}

// someBatches tells the wrong batches' bytes.
func someBatches() (all [][]byte) {
	for b := range wrongBatches {
		all = append(all, []byte(b))
	}
	return all
}
