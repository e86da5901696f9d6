package store_test

import (
	"bytes"
	"slices"
	"testing"

	"ledger/api"
	"ledger/disk"
	"ledger/file"
	"ledger/frame"
	"ledger/store"
)

const (
	highest = int(^uint(0) >> 1)
	lowest  = -highest - 1
)

// content is what a page is to carry.
type content struct {
	kind int
	load []byte
}

// lastOf tells the last page below Next, 0 if there is none.
func lastOf(next int) int {
	if next == 2 {
		return 0
	}
	return next - 1
}

// rig is a disk with a store over it, and the promise that is under test: whatever fails is told under its name.
type rig struct {
	*testing.T
	promise string
	d       *disk.Disk
	f       *file.File
	s       *store.Store
	room    int
}

// begun makes a disk of so many pages with an empty file of width 32, and a store over it.
func begun(t *testing.T, promise string, pages, room int) *rig {
	t.Helper()
	d, e := disk.New(pages)
	if e != api.OK {
		t.Fatal(e)
	}
	if e := file.Format(d, 32); e != api.OK {
		t.Fatal(e)
	}
	return over(t, promise, d, room)
}

// over opens a disk and makes a store over it.
func over(t *testing.T, promise string, d *disk.Disk, room int) *rig {
	t.Helper()
	f, e := file.Open(d)
	if e != api.OK {
		t.Fatalf("%s: Open: %v", promise, e)
	}
	s, e := store.New(f, room)
	if s == nil || e != api.OK {
		t.Fatalf("%s: New: %v, %v", promise, s, e)
	}
	return &rig{t, promise, d, f, s, room}
}

// onImage makes a store over another disk that holds an image.
func onImage(t *testing.T, promise string, image []byte, room int) *rig {
	t.Helper()
	d, e := disk.Load(image)
	if e != api.OK {
		t.Fatal(e)
	}
	return over(t, promise, d, room)
}

// is asks for an error, or for none.
func (r *rig) is(call string, got, want api.Errno) {
	r.Helper()
	if got != want {
		r.Errorf("%s: %s: %d (%v), want %d (%v)", r.promise, call, got, got, want, want)
	}
}

// stages asks that a load gets a number.
func (r *rig) stages(kind int, load []byte, want int) {
	r.Helper()
	if got, e := r.s.Stage(kind, load); got != want || e != api.OK {
		r.Errorf("%s: Stage(%d, %d bytes): %d, %v, want %d", r.promise, kind, len(load), got, e, want)
	}
}

// stagesNot asks that a load is refused.
func (r *rig) stagesNot(kind int, load []byte, want api.Errno) {
	r.Helper()
	if got, e := r.s.Stage(kind, load); got != 0 || e != want {
		r.Errorf("%s: Stage(%d, %d bytes): %d, %v, want 0, %v", r.promise, kind, len(load), got, e, want)
	}
}

// loads asks what a page carries.
func (r *rig) loads(page, kind int, load []byte) {
	r.Helper()
	if k, l, e := r.s.Load(page); k != kind || !bytes.Equal(l, load) || e != api.OK {
		r.Errorf("%s: Load(%d): %d, %v, %v, want %d, %v", r.promise, page, k, l, e, kind, load)
	}
}

// loadsNot asks that a page is refused.
func (r *rig) loadsNot(page int, want api.Errno) {
	r.Helper()
	if k, l, e := r.s.Load(page); k != 0 || l != nil || e != want {
		r.Errorf("%s: Load(%d): %d, %v, %v, want 0, nil, %v", r.promise, page, k, l, e, want)
	}
}

// rewinds asks what Rewind answers.
func (r *rig) rewinds(next int, want api.Errno) {
	r.Helper()
	if e := r.s.Rewind(next); e != want {
		r.Errorf("%s: Rewind(%d): %v, want %v", r.promise, next, e, want)
	}
}

// flushes asks what Flush answers.
func (r *rig) flushes(head int, want api.Errno) {
	r.Helper()
	if e := r.s.Flush(head); e != want {
		r.Errorf("%s: Flush(%d): %v, want %v", r.promise, head, e, want)
	}
}

// super tells a superblock of this disk by the numbers that change.
func (r *rig) super(generation, mark, head int) api.Super {
	return api.Super{Width: 32, Generation: generation, Mark: mark, Head: head, Pages: r.d.Pages()}
}

// tells asks for all that a store tells of itself but its tally.
func (r *rig) tells(super api.Super, staged int) {
	r.Helper()
	s := r.s
	if s.Super() != super || s.Staged() != staged || s.Next() != super.Mark+staged || s.Pages() != super.Pages {
		r.Errorf("%s: %+v, %d staged, next %d, %d pages, want %+v, %d staged", r.promise, s.Super(), s.Staged(), s.Next(), s.Pages(), super, staged)
	}
}

// tallies asks for the cache's counts.
func (r *rig) tallies(hits, misses, gone, clean, held int) {
	r.Helper()
	want := api.Tally{Hits: hits, Misses: misses, Gone: gone, Clean: clean, Held: held}
	if got := r.s.Tally(); got != want {
		r.Errorf("%s: Tally %+v, want %+v", r.promise, got, want)
	}
}

// counts asks how often the disk was read, written and synced, with no write open.
func (r *rig) counts(reads, writes, syncs int) {
	r.Helper()
	want := api.Counts{Reads: reads, Writes: writes, Syncs: syncs}
	if got := r.d.Counts(); got != want {
		r.Errorf("%s: Counts %+v, want %+v", r.promise, got, want)
	}
}

// acts asks how many reads, writes and syncs a call makes.
func (r *rig) acts(reads, writes, syncs int, call func()) {
	r.Helper()
	was := r.d.Counts()
	call()
	now := r.d.Counts()
	if now.Reads != was.Reads+reads || now.Writes != was.Writes+writes || now.Syncs != was.Syncs+syncs {
		r.Errorf("%s: from %+v to %+v, want %d reads, %d writes, %d syncs", r.promise, was, now, reads, writes, syncs)
	}
}

// seen is all that can be asked of a store and its disk without changing either.
type seen struct {
	super        api.Super
	next, staged int
	tally        api.Tally
	counts       api.Counts
	epoch        int
	power        bool
	image        string
}

func (r *rig) seen() seen {
	s, d := r.s, r.d
	return seen{s.Super(), s.Next(), s.Staged(), s.Tally(), d.Counts(), d.Epoch(), d.Power(), string(d.Image())}
}

// untouched asks that calls change nothing at all.
func (r *rig) untouched(calls func()) {
	r.Helper()
	was := r.seen()
	calls()
	if now := r.seen(); now != was {
		r.Errorf("%s: something has changed: %+v, %+v, next %d, from %+v, %+v, next %d", r.promise, now.tally, now.counts, now.next, was.tally, was.counts, was.next)
	}
}

// cut ends the power; it closes no write and opens none.
func (r *rig) cut() {
	r.Helper()
	r.d.Arm(1)
	if e := r.d.Sync(); e != api.ErrDown {
		r.Fatalf("the armed Sync: %v", e)
	}
}

// endEachWay ends the power, then crashes the disk, then ends the power again, and asks behind each what is refused by it.
func (r *rig) endEachWay(refused func(want api.Errno)) {
	r.Helper()
	r.cut()
	refused(api.ErrDown)
	r.d.Crash(nil)
	refused(api.ErrStale)
	r.cut()
	refused(api.ErrStale)
}

// text tells n bytes, others for another seed.
func text(seed, n int) []byte {
	b := make([]byte, n)
	for i := range b {
		b[i] = byte(seed*31 + i*i + i>>3)
	}
	return b
}

// packed tells a page's bytes.
func packed(t *testing.T, kind, page int, load []byte) []byte {
	t.Helper()
	raw, e := frame.Pack(kind, page, load)
	if e != api.OK {
		t.Fatal(e)
	}
	return raw
}

// slot tells a superblock's page.
func slot(t *testing.T, super api.Super) []byte {
	t.Helper()
	raw, e := frame.PackSuper(super)
	if e != api.OK {
		t.Fatal(e)
	}
	return raw
}

// allFates calls back with each row of n fates.
func allFates(n int, call func(fates []byte)) {
	rows := 1
	for range n {
		rows *= 16
	}
	for row := range rows {
		fates := make([]byte, n)
		for i := range fates {
			fates[i] = byte(row % 16)
			row /= 16
		}
		call(slices.Clone(fates))
	}
}
