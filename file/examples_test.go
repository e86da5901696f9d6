package file_test

import (
	"bytes"
	"testing"

	"ledger/api"
	"ledger/disk"
	"ledger/file"
)

// The rows of the chapter's examples, by their numbers; each function lays down what those above it told.

func TestExample1(t *testing.T) {
	d := fresh(t, 5)
	wantNoOpen(t, "blank", d, api.ErrBlank)
	wantErr(t, "Format(d, 0)", file.Format(d, 0), api.ErrArg)
	wantErr(t, "Format(d, 33)", file.Format(d, 33), api.ErrArg)
	wantErr(t, "Format(d, 32)", file.Format(d, 32), api.OK)
	if got := d.Counts(); got != (api.Counts{Reads: 4, Writes: 2, Syncs: 2}) {
		t.Errorf("Counts: %+v", got)
	}
	wantErr(t, "Format(d, 32) once more", file.Format(d, 32), api.ErrTaken)
}

func TestExamples2To5(t *testing.T) {
	d, f := made(t, 5, 32)
	if d.Epoch() != 1 {
		t.Errorf("Epoch: %d", d.Epoch())
	}
	wantKept(t, "opened", f, super(32, 1, 2, 0, 5), 2)

	wantNoRead(t, f, 2, api.ErrPage)
	wantNoAppend(t, f, 4, nil, api.ErrKind)
	wantNoAppend(t, f, 3, make([]byte, 247), api.ErrLoad)
	wantAppend(t, f, 3, []byte("abc"), 2)
	wantKept(t, "appended", f, super(32, 1, 2, 0, 5), 3)
	wantRead(t, f, 2, 3, []byte("abc"))

	wantErr(t, "Publish(3)", f.Publish(3), api.ErrPage)
	wantErr(t, "Publish(1)", f.Publish(1), api.ErrPage)
	wantErr(t, "Publish(2)", f.Publish(2), api.OK)
	wantKept(t, "published", f, super(32, 2, 3, 2, 5), 3)
	wantPage(t, "published", d, 0, slot(super(32, 2, 3, 2, 5)))

	wantAppend(t, f, 1, nil, 3)
	wantAppend(t, f, 1, nil, 4)
	wantNoAppend(t, f, 1, nil, api.ErrFull)
	f.Forget()
	wantKept(t, "forgotten", f, super(32, 2, 3, 2, 5), 3)
	wantNoRead(t, f, 3, api.ErrPage)
	wantAppend(t, f, 1, nil, 3)
}

// behind5 is where example 5 ends; the two writes that Forget left open are open still.
func behind5(t *testing.T) (*disk.Disk, *file.File) {
	d, f := made(t, 5, 32)
	wantAppend(t, f, 3, []byte("abc"), 2)
	wantErr(t, "Publish(2)", f.Publish(2), api.OK)
	wantAppend(t, f, 1, nil, 3)
	wantAppend(t, f, 1, nil, 4)
	f.Forget()
	wantAppend(t, f, 1, nil, 3)
	return d, f
}

func TestExample6(t *testing.T) {
	d, f := behind5(t)
	d.Arm(1)
	wantErr(t, "Publish(2)", f.Publish(2), api.ErrDown)
	wantKept(t, "down", f, super(32, 2, 3, 2, 5), 4)
	wantNoRead(t, f, 2, api.ErrDown)
	d.Crash(nil)
	wantNoRead(t, f, 2, api.ErrStale)
	wantKept(t, "opened again", opened(t, d), super(32, 2, 3, 2, 5), 3)
}

func TestExamples7And8(t *testing.T) {
	for _, arm := range []int{2, 3} {
		for fate := range 256 {
			d, f := behind5(t)
			d.Arm(arm)
			wantErr(t, "Publish(2)", f.Publish(2), api.ErrDown)
			if open := d.Crash([]byte{byte(fate)}); open != 1 {
				t.Fatalf("%d writes open at act %d", open, arm)
			}
			g := opened(t, d)
			if fate%2 == 0 {
				wantKept(t, "the old one", g, super(32, 2, 3, 2, 5), 3)
				continue
			}
			wantKept(t, "the new one", g, super(32, 3, 4, 2, 5), 4)
			wantRead(t, g, 3, 1, nil)
		}
	}
}

func TestExample9(t *testing.T) {
	d, f := behind5(t)
	if f.Pages() != 5 || f.Counts() != d.Counts() {
		t.Errorf("%d pages, %+v", f.Pages(), f.Counts())
	}
	was := f.Epoch()
	d.Crash(nil)
	if f.Epoch() != was+1 {
		t.Errorf("Epoch: %d behind %d", f.Epoch(), was)
	}
	f = opened(t, d)
	g := opened(t, d)
	wantErr(t, "the later one", g.Live(), api.OK)
	wantErr(t, "the earlier one", f.Live(), api.ErrStale)
}

func TestExample10(t *testing.T) {
	d, f := behind5(t)
	wantErr(t, "Publish(0)", f.Publish(0), api.OK)
	twin := loaded(t, d.Image())
	g := opened(t, twin)
	d.Crash(nil)
	wantErr(t, "over the disk that crashed", f.Live(), api.ErrStale)
	wantErr(t, "over the other disk", g.Live(), api.OK)
	wantRead(t, g, 2, 3, []byte("abc"))
	wantAppend(t, g, 2, []byte("x"), 4)
	wantErr(t, "Publish(4)", g.Publish(4), api.OK)
	if bytes.Equal(d.Image(), twin.Image()) {
		t.Errorf("what is published on one disk is on the other")
	}
}
