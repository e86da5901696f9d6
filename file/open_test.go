package file_test

import (
	"bytes"
	"testing"

	"ledger/api"
	"ledger/disk"
	"ledger/file"
	"ledger/frame"
)

// P6.1: which error comes first, and that nothing is done ahead of it.
func TestFormatRefused(t *testing.T) {
	for _, width := range []int{lowest, -1, 0, 1, 32, 33, highest} {
		wantErr(t, "P6.1: Format(nil, ..)", file.Format(nil, width), api.ErrArg)
	}
	for _, width := range []int{lowest, -1, 0, 33, 64, 257, 1 << 32, highest} {
		d := fresh(t, 3)
		wantUntouched(t, "P6.1: a wrong width", d, func() {
			wantErr(t, "P6.1: a wrong width", file.Format(d, width), api.ErrArg)
		})
		taken, _ := made(t, 3, 1)
		wantErr(t, "P6.1: a wrong width on a taken disk", file.Format(taken, width), api.ErrArg)
	}
	for _, width := range []int{0, 1, 32, 33} {
		blank, taken := fresh(t, 3), loaded(t, image(3, text(1, 256)))
		for _, d := range []*disk.Disk{blank, taken} {
			cut(t, d)
			wantUntouched(t, "P6.1: without power", d, func() {
				wantErr(t, "P6.1: without power", file.Format(d, width), api.ErrDown)
			})
		}
	}
}

// P6.1: every width that may be, the smallest disk and the greatest one.
func TestFormatLaysBothSuperblocks(t *testing.T) {
	for _, pages := range []int{3, 4, 5, 4095, 4096} {
		for width := 1; width <= 32; width++ {
			d := fresh(t, pages)
			wantActs(t, "P6.1: Format", d, 2, 2, 2, func() {
				wantErr(t, "P6.1: Format", file.Format(d, width), api.OK)
			})
			want := image(pages, slot(super(width, 0, 2, 0, pages)), slot(super(width, 1, 2, 0, pages)))
			if !bytes.Equal(d.Image(), want) {
				t.Errorf("P6.1: width %d, %d pages: another image", width, pages)
			}
			if d.Epoch() != 0 || d.Counts().Open != 0 {
				t.Errorf("P6.1: epoch %d, %+v", d.Epoch(), d.Counts())
			}
		}
	}
}

// P6.1: what else is on a blank disk stays, and whoever opened it is not stale.
func TestFormatLeavesTheRest(t *testing.T) {
	junk := text(7, 5*256)
	clear(junk[:64])
	clear(junk[256 : 256+64])
	d := loaded(t, junk)
	d.Claim()
	wantErr(t, "P6.1: Format", file.Format(d, 9), api.OK)
	want := image(5, slot(super(9, 0, 2, 0, 5)), slot(super(9, 1, 2, 0, 5)), junk[512:])
	if !bytes.Equal(d.Image(), want) || d.Epoch() != 1 {
		t.Errorf("P6.1: another image, or epoch %d", d.Epoch())
	}
}

// P6.1: unless Choose of the two slots answers ErrBlank: ErrTaken, whichever other answer it is.
func TestFormatTaken(t *testing.T) {
	zero, one := slot(super(4, 0, 2, 0, 5)), slot(super(4, 1, 2, 0, 5))
	for _, c := range []struct {
		name string
		a, b []byte
		want api.Errno
	}{
		{"blank", nil, nil, api.OK},
		{"half formatted", zero, nil, api.OK},
		{"half formatted, another number of pages", slot(super(4, 0, 2, 0, 77)), nil, api.OK},
		{"half formatted, spoilt", flipped(zero, 33), nil, api.ErrTaken},
		{"formatted", zero, one, api.ErrTaken},
		{"the second slot alone", nil, one, api.ErrTaken},
		{"one bit", nil, flipped(make([]byte, 256), 511), api.ErrTaken},
		{"one bit behind the sector", nil, flipped(make([]byte, 256), 512), api.OK},
		{"a later generation alone", slot(super(4, 2, 2, 0, 5)), nil, api.ErrTaken},
		{"two that do not follow", slot(super(4, 4, 2, 0, 5)), one, api.ErrTaken},
		{"another number of pages", slot(super(4, 0, 2, 0, 6)), slot(super(4, 1, 2, 0, 6)), api.ErrTaken},
		{"a text", text(1, 256), text(2, 256), api.ErrTaken},
	} {
		d := loaded(t, image(5, row(c.a), row(c.b)))
		was := d.Image()
		writes := 0
		if c.want == api.OK {
			writes = 2
		}
		wantActs(t, "P6.1: "+c.name, d, 2, writes, writes, func() {
			wantErr(t, "P6.1: "+c.name, file.Format(d, 4), c.want)
		})
		if c.want != api.OK && !bytes.Equal(d.Image(), was) {
			t.Errorf("P6.1: %s: the image has changed", c.name)
		}
		if c.want == api.OK {
			wantKept(t, "P6.1: "+c.name, opened(t, d), super(4, 1, 2, 0, 5), 2)
		}
	}
}

// row tells a page's bytes, zeros if there are none.
func row(b []byte) []byte {
	if b == nil {
		return make([]byte, 256)
	}
	return b
}

// flipped tells bytes with one bit turned.
func flipped(b []byte, bit int) []byte {
	b = bytes.Clone(b)
	b[bit/8] ^= 1 << (bit % 8)
	return b
}

// P6.1: the slots are read as they were written last, open writes among them.
func TestFormatSeesOpenWrites(t *testing.T) {
	d := fresh(t, 5)
	wantErr(t, "Write", d.Write(1, text(1, 256)), api.OK)
	wantErr(t, "P6.1: an open write in a slot", file.Format(d, 4), api.ErrTaken)
	wantErr(t, "Write", d.Write(1, make([]byte, 256)), api.OK)
	wantErr(t, "P6.1: the slot is blank again", file.Format(d, 4), api.OK)
	wantKept(t, "P6.1", opened(t, d), super(4, 1, 2, 0, 5), 2)
}

// P6.2: power goes at each act, with each fate of what is open; then with another width, to the same end.
func TestFormatWherePowerGoes(t *testing.T) {
	for act := 1; act <= 4; act++ {
		for fate := range 256 {
			for again := 0; again <= 4; again++ {
				d := fresh(t, 5)
				formatCut(t, d, 7, act, byte(fate), act >= 3 && fate%2 == 1)
				if act >= 3 && fate%2 == 1 {
					break
				}
				if again > 0 {
					done := again >= 3 && fate%2 == 1
					formatCut(t, d, 32, again, byte(fate), done)
					if done {
						continue
					}
				}
				wantErr(t, "P6.2: once more", file.Format(d, 1), api.OK)
				wantKept(t, "P6.2: once more", opened(t, d), super(1, 1, 2, 0, 5), 2)
			}
		}
	}
}

// formatCut lets power go at an act of a Format: behind it the disk is blank, or, if done, formatted.
func formatCut(t *testing.T, d *disk.Disk, width, act int, fate byte, done bool) {
	t.Helper()
	d.Arm(act)
	wantErr(t, "P6.2: Format", file.Format(d, width), api.ErrDown)
	if open := d.Crash([]byte{fate}); open != 1 {
		t.Errorf("P6.2: act %d: %d writes open", act, open)
	}
	raw := d.Image()
	s, e := frame.Choose(raw[:256], raw[256:512])
	switch {
	case done && (e != api.OK || s != super(width, 1, 2, 0, 5)):
		t.Errorf("P6.2: act %d, fate %d: %+v, %v", act, fate, s, e)
	case !done && e != api.ErrBlank:
		t.Errorf("P6.2: act %d, fate %d: %+v, %v, want blank", act, fate, s, e)
	}
}

// P6.1: how many writes and syncs have come ahead of the act at which power goes.
func TestFormatEndsAtTheFirstErrDown(t *testing.T) {
	for act, want := range []api.Counts{
		{Reads: 2, Writes: 1, Open: 1}, {Reads: 2, Writes: 1, Open: 1}, {Reads: 2, Writes: 2, Syncs: 1, Open: 1}, {Reads: 2, Writes: 2, Syncs: 1, Open: 1},
	} {
		d := fresh(t, 5)
		d.Arm(act + 1)
		wantErr(t, "P6.1: Format", file.Format(d, 7), api.ErrDown)
		if d.Counts() != want {
			t.Errorf("P6.1: power goes at act %d: %+v, want %+v", act+1, d.Counts(), want)
		}
	}
	d := fresh(t, 5)
	d.Arm(5)
	wantErr(t, "P6.1: power goes behind it", file.Format(d, 7), api.OK)
	wantErr(t, "the fifth act", d.Sync(), api.ErrDown)
}

// P6.3
func TestOpenRefused(t *testing.T) {
	wantNoOpen(t, "P6.3: nil", nil, api.ErrArg)
	zero, one := slot(super(4, 0, 2, 0, 5)), slot(super(4, 1, 2, 0, 5))
	for _, c := range []struct {
		name string
		a, b []byte
		want api.Errno
	}{
		{"blank", nil, nil, api.ErrBlank},
		{"half formatted", zero, nil, api.ErrBlank},
		{"the second slot alone", nil, one, api.ErrCorrupt},
		{"the first one spoilt", flipped(zero, 100), one, api.ErrCorrupt},
		{"the second one spoilt", zero, flipped(one, 100), api.ErrCorrupt},
		{"each in the other's slot", one, zero, api.ErrCorrupt},
		{"two that do not follow", slot(super(4, 4, 2, 0, 5)), one, api.ErrCorrupt},
		{"unlike widths", slot(super(5, 0, 2, 0, 5)), one, api.ErrCorrupt},
		{"a mark that falls", slot(super(4, 2, 3, 0, 5)), slot(super(4, 3, 2, 0, 5)), api.ErrCorrupt},
		{"one page fewer", slot(super(4, 0, 2, 0, 4)), slot(super(4, 1, 2, 0, 4)), api.ErrCorrupt},
		{"one page more", slot(super(4, 0, 2, 0, 6)), slot(super(4, 1, 2, 0, 6)), api.ErrCorrupt},
	} {
		d := loaded(t, image(5, row(c.a), row(c.b)))
		was := d.Image()
		wantActs(t, "P6.3: "+c.name, d, 2, 0, 0, func() { wantNoOpen(t, "P6.3: "+c.name, d, c.want) })
		if d.Epoch() != 0 || !bytes.Equal(d.Image(), was) {
			t.Errorf("P6.3: %s: epoch %d, or another image", c.name, d.Epoch())
		}
		cut(t, d)
		wantUntouched(t, "P6.3: without power", d, func() { wantNoOpen(t, "P6.3: without power", d, api.ErrDown) })
	}
}

// P6.3: what a loaded image holds is what the File keeps; the rest of the disk is not asked.
func TestOpenKeepsTheChosenOne(t *testing.T) {
	for _, c := range []struct {
		a, b, want api.Super
	}{
		{super(4, 0, 2, 0, 5), super(4, 1, 2, 0, 5), super(4, 1, 2, 0, 5)},
		{super(1, 2, 5, 4, 5), super(1, 1, 2, 0, 5), super(1, 2, 5, 4, 5)},
		{super(32, 2, 3, 2, 5), super(32, 3, 3, 0, 5), super(32, 3, 3, 0, 5)},
		{super(32, api.MaxGeneration, 4, 2, 5), super(32, api.MaxGeneration-1, 4, 3, 5), super(32, api.MaxGeneration, 4, 2, 5)},
	} {
		d := loaded(t, image(5, slot(c.a), slot(c.b), text(1, 768)))
		was := d.Image()
		var f *file.File
		wantActs(t, "P6.3: Open", d, 2, 0, 0, func() { f = opened(t, d) })
		wantKept(t, "P6.3: Open", f, c.want, c.want.Mark)
		wantErr(t, "P6.3: Live", f.Live(), api.OK)
		if d.Epoch() != 1 || f.Disk != d || !bytes.Equal(d.Image(), was) {
			t.Errorf("P6.3: epoch %d, or another image or disk", d.Epoch())
		}
	}
}

// P6.3: a refused Open leaves the earlier File live; and the slots are read as they were written last.
func TestOpenSeesOpenWrites(t *testing.T) {
	d, f := made(t, 5, 4)
	wantErr(t, "Write", d.Write(0, slot(super(4, 2, 2, 0, 5))), api.OK)
	wantErr(t, "Write", d.Write(1, text(1, 256)), api.OK)
	wantNoOpen(t, "P6.3: an open write in a slot", d, api.ErrCorrupt)
	wantErr(t, "P6.3: the earlier one", f.Live(), api.OK)
	wantErr(t, "Write", d.Write(1, slot(super(4, 1, 2, 0, 5))), api.OK)
	g := opened(t, d)
	wantKept(t, "P6.3: an open superblock", g, super(4, 2, 2, 0, 5), 2)
	wantErr(t, "P6.3: the earlier one", f.Live(), api.ErrStale)
	if d.Counts().Open != 3 {
		t.Errorf("P6.3: Open closed a write: %+v", d.Counts())
	}
}
