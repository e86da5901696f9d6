package file_test

import (
	"bytes"
	"testing"

	"ledger/api"
	"ledger/disk"
	"ledger/file"
)

// laid tells a file of eight pages with page 2 published and page 3 appended behind it.
func laid(t *testing.T) (*disk.Disk, *file.File) {
	t.Helper()
	d, f := made(t, 8, 4)
	wantAppend(t, f, 3, []byte("abc"), 2)
	wantErr(t, "Publish(2)", f.Publish(2), api.OK)
	wantAppend(t, f, 1, []byte("d"), 3)
	return d, f
}

// wantAllRefused asks that each call which must be live is refused so, whatever it is given, and does nothing.
func wantAllRefused(t *testing.T, name string, f *file.File, want api.Errno) {
	t.Helper()
	s, next := f.Super(), f.Next()
	wantUntouched(t, name, f.Disk, func() {
		wantErr(t, name+": Live", f.Live(), want)
		for _, kind := range []int{-1, 0, 1, 3, 4} {
			for _, n := range []int{0, 246, 247} {
				wantNoAppend(t, f, kind, make([]byte, n), want)
			}
		}
		for _, page := range []int{lowest, -1, 0, 1, 2, 3, 4, highest} {
			wantNoRead(t, f, page, want)
			wantErr(t, name+": Publish", f.Publish(page), want)
		}
	})
	wantKept(t, name, f, s, next)
}

// P6.4, R2
func TestStaleByACrash(t *testing.T) {
	for _, fates := range [][]byte{nil, {15}, {15, 15, 15}} {
		d, f := laid(t)
		d.Crash(fates)
		wantAllRefused(t, "P6.4: crashed", f, api.ErrStale)
		wantKept(t, "P6.4: crashed", f, super(4, 2, 3, 2, 8), 4)
		cut(t, d)
		wantAllRefused(t, "P6.4: crashed, and without power", f, api.ErrStale)
		d.Crash(nil)
		wantAllRefused(t, "P6.4: crashed twice", f, api.ErrStale)
	}
}

// P6.4: a stale File stays stale, also when the disk is opened by others.
func TestStaleByAnotherOpen(t *testing.T) {
	d, f := laid(t)
	g := opened(t, d)
	wantAllRefused(t, "P6.4: another Open", f, api.ErrStale)
	wantErr(t, "P6.4: the later one", g.Live(), api.OK)
	wantKept(t, "P6.4: the earlier one", f, super(4, 2, 3, 2, 8), 4)
	wantKept(t, "P6.4: the later one", g, super(4, 2, 3, 2, 8), 3)
	wantAppend(t, g, 2, []byte("e"), 3)
	wantAppend(t, g, 2, []byte("f"), 4)
	wantErr(t, "Publish", g.Publish(4), api.OK)
	wantKept(t, "P6.4: the earlier one", f, super(4, 2, 3, 2, 8), 4)
	wantKept(t, "P6.4: the later one", g, super(4, 3, 5, 4, 8), 5)
	h := opened(t, d)
	wantAllRefused(t, "P6.4: a third one", f, api.ErrStale)
	wantAllRefused(t, "P6.4: a third one", g, api.ErrStale)
	wantErr(t, "P6.4: the third one", h.Live(), api.OK)
}

// P6.4: a Claim by the disk's name or by the File's own.
func TestStaleByAClaim(t *testing.T) {
	for _, own := range []bool{false, true} {
		d, f := laid(t)
		if own {
			f.Claim()
		} else {
			d.Claim()
		}
		wantAllRefused(t, "P6.4: claimed", f, api.ErrStale)
		cut(t, d)
		wantAllRefused(t, "P6.4: claimed, and without power", f, api.ErrStale)
	}
}

// P6.4
func TestDown(t *testing.T) {
	d, f := laid(t)
	cut(t, d)
	wantAllRefused(t, "P6.4: without power", f, api.ErrDown)
	wantNoOpen(t, "P6.3: without power", d, api.ErrDown)
	wantAllRefused(t, "P6.4: behind a refused Open", f, api.ErrDown)
	d.Claim()
	wantAllRefused(t, "P6.4: claimed without power", f, api.ErrStale)
}

// P6.4: what does not make a File stale.
func TestStaysLive(t *testing.T) {
	d, f := laid(t)
	wantErr(t, "Format", file.Format(d, 4), api.ErrTaken)
	wantErr(t, "Sync", d.Sync(), api.OK)
	wantErr(t, "Write", d.Write(7, text(1, 256)), api.OK)
	wantErr(t, "Flip", d.Flip(0, 0, 1), api.OK)
	d.Arm(9)
	wantNoOpen(t, "P6.3: spoilt", d, api.ErrCorrupt)
	twin := loaded(t, d.Image())
	twin.Claim()
	twin.Crash(nil)
	wantErr(t, "P6.4: Live", f.Live(), api.OK)
	wantRead(t, f, 2, 3, []byte("abc"))
	wantKept(t, "P6.4", f, super(4, 2, 3, 2, 8), 4)
}

// 'Types': a File over another disk with the same image has nothing in common with the first one.
func TestTwinDisks(t *testing.T) {
	d, f := laid(t)
	twin := loaded(t, d.Image())
	g := opened(t, twin)
	wantNoRead(t, g, 3, api.ErrPage)
	d.Crash(nil)
	wantErr(t, "over the disk that crashed", f.Live(), api.ErrStale)
	wantErr(t, "over the twin", g.Live(), api.OK)
	cut(t, twin)
	wantErr(t, "over the twin", g.Live(), api.ErrDown)
	opened(t, d)
	wantErr(t, "over the twin", g.Live(), api.ErrDown)
}

// P6.9: Forget of a File that is not live, and Forget twice.
func TestForgetWhenNotLive(t *testing.T) {
	for _, end := range []func(*disk.Disk){
		func(d *disk.Disk) { d.Arm(1); d.Sync() }, func(d *disk.Disk) { d.Crash(nil) }, func(d *disk.Disk) { d.Claim() }, func(d *disk.Disk) { file.Open(d) },
	} {
		d, f := laid(t)
		end(d)
		wantUntouched(t, "P6.9: Forget", d, f.Forget)
		wantKept(t, "P6.9: Forget", f, super(4, 2, 3, 2, 8), 3)
		wantUntouched(t, "P6.9: Forget twice", d, f.Forget)
		wantKept(t, "P6.9: Forget twice", f, super(4, 2, 3, 2, 8), 3)
	}
}

// 'Types': what a disk has and a File does not name is the disk's own.
func TestPromoted(t *testing.T) {
	d, f := laid(t)
	if f.Disk != d || f.Pages() != d.Pages() || f.Epoch() != d.Epoch() || f.Power() != d.Power() || !bytes.Equal(f.Image(), d.Image()) {
		t.Errorf("a File's disk is another one")
	}
	if f.Counts() != d.Counts() || f.Counts().Open != 1 {
		t.Errorf("Counts: %+v, %+v", f.Counts(), d.Counts())
	}
	wantErr(t, "Write", f.Write(3, page(2, 3, []byte("other"))), api.OK)
	wantRead(t, f, 3, 2, []byte("other"))
	wantErr(t, "Sync", f.Sync(), api.OK)
	wantErr(t, "Flip", f.Flip(3, 2047, 1), api.OK)
	wantNoRead(t, f, 3, api.ErrCorrupt)
	f.Arm(1)
	wantErr(t, "Sync", f.Sync(), api.ErrDown)
	wantErr(t, "Live", f.Live(), api.ErrDown)
	f.Crash(nil)
	wantErr(t, "Live", f.Live(), api.ErrStale)
}
