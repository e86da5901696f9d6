package index_test

import (
	"crypto/sha256"
	"encoding/binary"
	"slices"
	"testing"

	"ledger/api"
	"ledger/disk"
	"ledger/file"
	"ledger/index"
	"ledger/store"
)

const (
	highest = int(^uint(0) >> 1)
	lowest  = -highest - 1
	top     = 1 << 30 // the highest version
)

// text makes n bytes, others for another seed.
func text(seed, n int) []byte {
	b := make([]byte, n)
	for i := range b {
		b[i] = byte(seed*37 + i*i + i>>3 + 1)
	}
	return b
}

// sumOf makes a digest, another one for another seed.
func sumOf(seed int) api.Digest { return sha256.Sum256(text(seed, 8)) }

// emptyRecord is what Find tells of version 0, by the library's SHA-256.
func emptyRecord(width int) (r api.Record) {
	whole := sha256.Sum256([]byte{2})
	copy(r.Sum[:width], whole[:])
	for range 256 {
		whole = sha256.Sum256(slices.Concat([]byte{1}, r.Sum[:width], r.Sum[:width]))
		copy(r.Sum[:width], whole[:])
	}
	return r
}

// laid tells a record's load, whether it is right by its form or not.
func laid(r api.Record) (load []byte) {
	for _, n := range []int{r.Version, r.First, r.Prev, r.Skip, r.Root, r.Count} {
		load = binary.LittleEndian.AppendUint32(load, uint32(n))
	}
	return append(load, r.Sum[:]...)
}

// linked tells a record of the empty map.
func linked(version, first, prev, skip int) api.Record {
	return api.Record{Version: version, First: first, Prev: prev, Skip: skip}
}

// of tells a record of a map.
func of(version, root, count int) api.Record {
	return api.Record{Version: version, Root: root, Count: count, Sum: sumOf(root)}
}

// rig is a disk with a store over it, and the promise that is under test: whatever fails is told under its name.
type rig struct {
	*testing.T
	promise string
	d       *disk.Disk
	s       *store.Store
}

// begun makes a disk of so many pages with an empty file of width 4, and a store over it.
func begun(t *testing.T, promise string, pages int) *rig {
	t.Helper()
	return begunWide(t, promise, pages, 4)
}

// begunWide is begun with any width.
func begunWide(t *testing.T, promise string, pages, width int) *rig {
	t.Helper()
	d, e := disk.New(pages)
	if e != api.OK {
		t.Fatal(e)
	}
	if e := file.Format(d, width); e != api.OK {
		t.Fatal(e)
	}
	return over(t, promise, d, 8)
}

// over opens a disk and makes a store over it.
func over(t *testing.T, promise string, d *disk.Disk, room int) *rig {
	t.Helper()
	f, e := file.Open(d)
	if e != api.OK {
		t.Fatal(e)
	}
	s, e := store.New(f, room)
	if e != api.OK {
		t.Fatal(e)
	}
	return &rig{t, promise, d, s}
}

// reopened makes a store over another disk that has the same image.
func (r *rig) reopened(room int) *rig {
	r.Helper()
	d, e := disk.Load(r.d.Image())
	if e != api.OK {
		r.Fatal(e)
	}
	return over(r.T, r.promise, d, room)
}

// flush lays all staged pages onto the disk.
func (r *rig) flush() {
	r.Helper()
	if e := r.s.Flush(0); e != api.OK {
		r.Fatal(e)
	}
}

// rewind forgets the staged pages from a number on.
func (r *rig) rewind(next int) {
	r.Helper()
	if e := r.s.Rewind(next); e != api.OK {
		r.Fatal(e)
	}
}

// forge stages a page, whatever it says, and tells its number.
func (r *rig) forge(kind int, load []byte) int {
	r.Helper()
	page, e := r.s.Stage(kind, load)
	if e != api.OK {
		r.Fatal(e)
	}
	return page
}

// record stages a record's page as it is, right or not, and tells its number.
func (r *rig) record(x api.Record) int {
	r.Helper()
	return r.forge(api.KindRecord, laid(x))
}

// filler stages leaves up to a page's number.
func (r *rig) filler(next int) {
	r.Helper()
	for r.s.Next() < next {
		r.forge(api.KindLeaf, make([]byte, 32))
	}
}

// added stages a record that must be taken, and tells its page.
func (r *rig) added(head int, x api.Record) int {
	r.Helper()
	page, e := index.Add(r.s, head, x)
	if e != api.OK {
		r.Fatalf("%s: Add(%d, %+v): %v", r.promise, head, x, e)
	}
	return page
}

// chain adds so many records behind a first one with nothing between, and tells the last one's page.
func (r *rig) chain(version, first, records int) int {
	r.Helper()
	head := 0
	for i := range records {
		head = r.added(head, api.Record{Version: version, First: first, Sum: sumOf(i)})
	}
	return head
}

// at tells the record that lies on a page.
func (r *rig) at(page int) api.Record {
	r.Helper()
	kind, load, e := r.s.Load(page)
	x, why := index.Decode(load)
	if kind != api.KindRecord || e != api.OK || why != api.OK {
		r.Fatalf("%s: page %d: kind %d, %v, %v", r.promise, page, kind, e, why)
	}
	return x
}

// adds asks that a record is staged on the next page, alone, and is this one to the last byte.
func (r *rig) adds(head int, x, want api.Record) int {
	r.Helper()
	next, staged, counts := r.s.Next(), r.s.Staged(), r.d.Counts()
	page, e := index.Add(r.s, head, x)
	if page != next || e != api.OK || r.s.Next() != next+1 || r.s.Staged() != staged+1 {
		r.Fatalf("%s: Add(%d, %+v) = %d, %v, next is %d, want %d, %d", r.promise, head, x, page, e, r.s.Next(), next, next+1)
	}
	if now := r.d.Counts(); now.Writes != counts.Writes || now.Syncs != counts.Syncs || now.Open != counts.Open {
		r.Errorf("%s: Add(%d, %+v) has written: %+v, from %+v", r.promise, head, x, now, counts)
	}
	kind, load, e := r.s.Load(page)
	if kind != api.KindRecord || string(load) != string(laid(want)) || e != api.OK {
		r.Errorf("%s: Add(%d, %+v) stages kind %d, %v, %v, want %+v", r.promise, head, x, kind, load, e, want)
	}
	return page
}

// addsNot asks that a record is refused.
func (r *rig) addsNot(head int, x api.Record, why api.Errno) {
	r.Helper()
	r.quiet(func() {
		r.Helper()
		if page, e := index.Add(r.s, head, x); page != 0 || e != why {
			r.Errorf("%s: Add(%d, %+v) = %d, %v, want 0, %v", r.promise, head, x, page, e, why)
		}
	})
}

// finds asks for a version's record and how many are looked at.
func (r *rig) finds(head, version, looked int, want api.Record) {
	r.Helper()
	r.quiet(func() {
		r.Helper()
		before := r.loads()
		x, n, e := index.Find(r.s, head, version)
		if x != want || n != looked || e != api.OK {
			r.Errorf("%s: Find(%d, %d) = %+v, %d, %v, want %+v, %d", r.promise, head, version, x, n, e, want, looked)
		}
		if loads := r.loads() - before; loads != looked {
			r.Errorf("%s: Find(%d, %d) looks at %d pages, says %d", r.promise, head, version, loads, looked)
		}
	})
}

// findsNot asks that a version is refused.
func (r *rig) findsNot(head, version int, why api.Errno) {
	r.Helper()
	r.quiet(func() {
		r.Helper()
		if x, n, e := index.Find(r.s, head, version); x != (api.Record{}) || n != 0 || e != why {
			r.Errorf("%s: Find(%d, %d) = %+v, %d, %v, want nothing, %v", r.promise, head, version, x, n, e, why)
		}
	})
}

// bounds asks for the first and the last version, or why they are refused.
func (r *rig) bounds(head, first, last int, why api.Errno) {
	r.Helper()
	r.quiet(func() {
		r.Helper()
		if a, b, e := index.Bounds(r.s, head); a != first || b != last || e != why {
			r.Errorf("%s: Bounds(%d) = %d, %d, %v, want %d, %d, %v", r.promise, head, a, b, e, first, last, why)
		}
	})
}

// refused asks that all three calls refuse a head.
func (r *rig) refused(head int, why api.Errno) {
	r.Helper()
	r.addsNot(head, api.Record{Version: 1}, why)
	for _, version := range []int{0, 1, 7, top, highest} {
		r.findsNot(head, version, why)
	}
	r.bounds(head, 0, 0, why)
}

// loads tells how many loads the store has answered with a page, or tried to.
func (r *rig) loads() int {
	t := r.s.Tally()
	return t.Hits + t.Misses
}

// state is what no refused call and no question may change.
type state struct {
	writes, syncs, open int
	super               api.Super
	next, staged        int
}

func (r *rig) state() state {
	c := r.d.Counts()
	return state{c.Writes, c.Syncs, c.Open, r.s.Super(), r.s.Next(), r.s.Staged()}
}

// quiet asks that calls stage, write and sync nothing.
func (r *rig) quiet(calls func()) {
	r.Helper()
	before := r.state()
	calls()
	if now := r.state(); now != before {
		r.Errorf("%s: something was staged or written: %+v, from %+v", r.promise, now, before)
	}
}
