package file_test

import (
	"bytes"
	"testing"

	"ledger/api"
)

// P6.5: which error comes first; a refused Append does nothing.
func TestAppendRefused(t *testing.T) {
	d, f := made(t, 3, 4)
	full, g := made(t, 3, 4)
	wantAppend(t, g, 1, nil, 2)
	for _, c := range []struct {
		kind, n     int
		want, whole api.Errno
	}{
		{lowest, 0, api.ErrKind, api.ErrKind}, {-1, 247, api.ErrKind, api.ErrKind}, {0, 0, api.ErrKind, api.ErrKind}, {0, 247, api.ErrKind, api.ErrKind},
		{4, 0, api.ErrKind, api.ErrKind}, {4, 1000, api.ErrKind, api.ErrKind}, {257, 0, api.ErrKind, api.ErrKind}, {highest, 0, api.ErrKind, api.ErrKind},
		{1, 247, api.ErrLoad, api.ErrLoad}, {2, 256, api.ErrLoad, api.ErrLoad}, {3, 247, api.ErrLoad, api.ErrLoad}, {3, 100000, api.ErrLoad, api.ErrLoad},
		{1, 246, api.OK, api.ErrFull}, {3, 0, api.OK, api.ErrFull},
	} {
		if c.want != api.OK {
			wantUntouched(t, "P6.5: Append", d, func() { wantNoAppend(t, f, c.kind, make([]byte, c.n), c.want) })
		}
		wantUntouched(t, "P6.5: Append at the end", full, func() { wantNoAppend(t, g, c.kind, make([]byte, c.n), c.whole) })
	}
	wantKept(t, "P6.5", f, super(4, 1, 2, 0, 3), 2)
	wantKept(t, "P6.5: full", g, super(4, 1, 2, 0, 3), 3)
}

// P6.5: each kind, each length; the bytes lie on the disk as the frame says, and no earlier than a sync.
func TestAppendLaysPages(t *testing.T) {
	d, f := made(t, 3+3*247, 4)
	number := 2
	for kind := 1; kind <= 3; kind++ {
		for n := range 247 {
			load := text(number, n)
			wantActs(t, "P6.5: Append", d, 0, 1, 0, func() { wantAppend(t, f, kind, load, number) })
			wantRead(t, f, number, kind, load)
			number++
			wantKept(t, "P6.5: Append", f, super(4, 1, 2, 0, 3+3*247), number)
		}
	}
	if !bytes.Equal(d.Image()[512:], make([]byte, 256*(d.Pages()-2))) || d.Counts().Open != 3*247 {
		t.Errorf("P6.5: an Append has synced: %+v", d.Counts())
	}
	wantErr(t, "Sync", d.Sync(), api.OK)
	for number := 2; number < f.Next(); number++ {
		kind, n := (number-2)/247+1, (number-2)%247
		wantPage(t, "P6.5", d, number, page(kind, number, text(number, n)))
	}
}

// P6.5: up to the last page of the smallest disk, of the greatest one, and behind it.
func TestAppendUpToTheEnd(t *testing.T) {
	for _, pages := range []int{3, 4, 4096} {
		d, f := made(t, pages, 32)
		for number := 2; number < pages; number++ {
			wantAppend(t, f, 1+number%3, text(number, number%247), number)
		}
		for range 2 {
			wantUntouched(t, "P6.5: full", d, func() { wantNoAppend(t, f, 1, nil, api.ErrFull) })
		}
		wantRead(t, f, pages-1, 1+(pages-1)%3, text(pages-1, (pages-1)%247))
		wantNoRead(t, f, pages, api.ErrPage)
		wantErr(t, "P6.7: Publish", f.Publish(pages-1), api.OK)
		wantKept(t, "P6.7: full", f, super(32, 2, pages, pages-1, pages), pages)
		wantNoAppend(t, f, 1, nil, api.ErrFull)
		f.Forget()
		wantNoAppend(t, f, 1, nil, api.ErrFull)
		g := opened(t, d)
		wantKept(t, "P6.3: full", g, super(32, 2, pages, pages-1, pages), pages)
		wantNoAppend(t, g, 1, nil, api.ErrFull)
	}
}

// P6.5: power goes with the write: it is open, and Next stays.
func TestAppendWherePowerGoes(t *testing.T) {
	d, f := laid(t)
	d.Arm(1)
	wantActs(t, "P6.5: Append", d, 0, 1, 0, func() { wantNoAppend(t, f, 2, []byte("e"), api.ErrDown) })
	wantKept(t, "P6.5: power has gone", f, super(4, 2, 3, 2, 8), 4)
	if open := d.Crash([]byte{15, 15}); open != 2 {
		t.Errorf("P6.5: %d writes open", open)
	}
	wantPage(t, "P6.5", d, 3, page(1, 3, []byte("d")))
	wantPage(t, "P6.5", d, 4, page(2, 4, []byte("e")))
	g := opened(t, d)
	wantKept(t, "P6.11: above the mark", g, super(4, 2, 3, 2, 8), 3)
	wantNoRead(t, g, 3, api.ErrPage)
	wantAppend(t, g, 3, []byte("new"), 3)
	wantRead(t, g, 3, 3, []byte("new"))
	wantNoRead(t, g, 4, api.ErrPage)
}

// P6.6: the pages that may be asked for, of published and of appended ones.
func TestReadRefused(t *testing.T) {
	d, f := laid(t)
	for _, number := range []int{lowest, -1, 0, 1, 4, 5, 7, 8, 9, 4096, 1 << 32, 1<<32 + 2, highest} {
		wantUntouched(t, "P6.6: Read", d, func() { wantNoRead(t, f, number, api.ErrPage) })
	}
	wantActs(t, "P6.6: Read", d, 1, 0, 0, func() { wantRead(t, f, 2, 3, []byte("abc")) })
	wantActs(t, "P6.6: Read", d, 1, 0, 0, func() { wantRead(t, f, 3, 1, []byte("d")) })
	if d.Counts().Open != 1 {
		t.Errorf("P6.6: %+v", d.Counts())
	}
}

// P6.6: whichever error Unpack has, the answer is ErrCorrupt, by one read; the pages beside it read well.
func TestReadCorrupt(t *testing.T) {
	good := page(3, 2, []byte("abc"))
	for name, raw := range map[string][]byte{
		"zeros":          make([]byte, 256),
		"a wrong sum":    flipped(good, 2047),
		"no kind":        sealed(append([]byte{4}, good[1:]...), 256),
		"kind 0":         sealed(append([]byte{0}, good[1:]...), 256),
		"a long load":    sealed(append([]byte{3, 247}, good[2:]...), 256),
		"another number": page(3, 3, []byte("abc")),
		"no zero behind": sealed(append(bytes.Clone(good[:251]), 1, 0, 0, 0, 0), 256),
		"a superblock":   slot(super(4, 2, 3, 2, 8)),
		"a text":         text(1, 256),
	} {
		d, f := laid(t)
		wantErr(t, "Write", d.Write(2, raw), api.OK)
		wantActs(t, "P6.6: "+name, d, 1, 0, 0, func() { wantNoRead(t, f, 2, api.ErrCorrupt) })
		wantRead(t, f, 3, 1, []byte("d"))
		wantErr(t, "P6.6: live still", f.Live(), api.OK)
		wantErr(t, "Sync", d.Sync(), api.OK)
		wantNoRead(t, f, 2, api.ErrCorrupt)
		wantErr(t, "Write", d.Write(2, good), api.OK)
		wantRead(t, f, 2, 3, []byte("abc"))
	}
}

// P6.6: each bit of a page, turned behind the file's back.
func TestReadSpoilt(t *testing.T) {
	d, f := laid(t)
	for bit := range 2048 {
		d.Flip(2, bit, 1)
		wantNoRead(t, f, 2, api.ErrCorrupt)
		d.Flip(2, bit, 1)
	}
	wantRead(t, f, 2, 3, []byte("abc"))
}

// P6.9: what is appended behind a Forget gets the same numbers; the open writes stay open, the last one holds.
func TestForget(t *testing.T) {
	d, f := laid(t)
	wantAppend(t, f, 2, []byte("e"), 4)
	wantUntouched(t, "P6.9: Forget", d, f.Forget)
	wantKept(t, "P6.9: Forget", f, super(4, 2, 3, 2, 8), 3)
	if d.Counts().Open != 2 {
		t.Errorf("P6.9: %+v", d.Counts())
	}
	wantNoRead(t, f, 3, api.ErrPage)
	wantErr(t, "P6.7: a head that was forgotten", f.Publish(3), api.ErrPage)
	wantAppend(t, f, 3, []byte("anew"), 3)
	wantRead(t, f, 3, 3, []byte("anew"))
	wantNoRead(t, f, 4, api.ErrPage)
	if d.Counts().Open != 3 {
		t.Errorf("P6.9: %+v", d.Counts())
	}
	wantErr(t, "P6.7: Publish", f.Publish(3), api.OK)
	wantKept(t, "P6.7: Publish", f, super(4, 3, 4, 3, 8), 4)
	wantPage(t, "P6.9", d, 3, page(3, 3, []byte("anew")))
	wantPage(t, "P6.9: the sync closes it too", d, 4, page(2, 4, []byte("e")))
	f.Forget()
	wantKept(t, "P6.9: nothing to forget", f, super(4, 3, 4, 3, 8), 4)
	g := opened(t, d)
	wantRead(t, g, 3, 3, []byte("anew"))
	wantNoRead(t, g, 4, api.ErrPage)
}

// P6.9: a Forget on a file that was never appended to.
func TestForgetNothing(t *testing.T) {
	_, f := made(t, 3, 1)
	f.Forget()
	wantKept(t, "P6.9", f, super(1, 1, 2, 0, 3), 2)
	wantAppend(t, f, 1, nil, 2)
}
