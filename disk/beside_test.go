package disk_test

import (
	"bytes"
	"slices"
	"testing"

	"ledger/api"
	"ledger/disk"
)

// P4.11
func TestFlipRefused(t *testing.T) {
	for _, c := range []struct {
		page, bit int
		want      api.Errno
	}{
		{lowest, 0, api.ErrPage}, {-1, 0, api.ErrPage}, {3, 0, api.ErrPage}, {highest, 0, api.ErrPage},
		{-1, -1, api.ErrPage}, {-1, 5000, api.ErrPage}, {3, 2048, api.ErrPage},
		{0, lowest, api.ErrArg}, {0, -1, api.ErrArg}, {1, -32, api.ErrArg}, {2, 2048, api.ErrArg}, {0, 2049, api.ErrArg}, {2, highest, api.ErrArg},
	} {
		for _, pattern := range []uint32{0, 1, 0xFFFFFFFF} {
			d := loaded(t, unlike(3*256))
			wantErr(t, "Flip", d.Flip(c.page, c.bit, pattern), c.want)
			wantImage(t, d, unlike(3*256))
		}
	}
}

// flipped tells what the chapter says of an image behind a Flip, one bit at a time.
func flipped(image []byte, page, bit int, pattern uint32) []byte {
	image = slices.Clone(image)
	for i := range 32 {
		number := bit + i
		if pattern/(1<<i)%2 == 1 && number < 2048 {
			image[256*page+number/8] ^= []byte{1, 2, 4, 8, 16, 32, 64, 128}[number%8]
		}
	}
	return image
}

// P4.11
func TestFlipTurnsBits(t *testing.T) {
	for _, pattern := range []uint32{0, 1, 2, 3, 0x80, 0x100, 0x80000000, 0x80000001, 0x12345678, 0xFFFFFFFF} {
		for _, bit := range []int{0, 1, 7, 8, 13, 511, 512, 1000, 2015, 2016, 2017, 2031, 2040, 2046, 2047} {
			for page := range 3 {
				d := loaded(t, unlike(3*256))
				wantErr(t, "Flip", d.Flip(page, bit, pattern), api.OK)
				want := flipped(unlike(3*256), page, bit, pattern)
				if !bytes.Equal(d.Image(), want) {
					t.Errorf("Flip(%d, %d, %x) turns others", page, bit, pattern)
				}
				wantPage(t, d, page, want[256*page:256*page+256])
				wantErr(t, "Flip", d.Flip(page, bit, pattern), api.OK)
				wantImage(t, d, unlike(3*256))
			}
		}
	}
}

// P4.11: where the bits lie, written out.
func TestFlipPlaces(t *testing.T) {
	d := fresh(t, 3)
	for _, c := range []struct {
		bit     int
		pattern uint32
		at      int
		value   byte
	}{{0, 1, 0, 1}, {9, 1, 1, 2}, {16, 0x80, 2, 0x80}, {24, 0x80000000, 6, 0x80}, {2047, 0xFFFFFFFF, 255, 0x80}, {2016, 0x80000000, 255, 0x80}} {
		wantErr(t, "Flip", d.Flip(1, c.bit, c.pattern), api.OK)
		wantImage(t, d, p(0), with(p(0), c.at, c.value), p(0))
		wantErr(t, "Flip", d.Flip(1, c.bit, c.pattern), api.OK)
	}
	wantImage(t, d, p(0), p(0), p(0))
}

// P4.11
func TestFlipLeavesOpenWrites(t *testing.T) {
	d := fresh(t, 3)
	wantErr(t, "Write", d.Write(1, p(1)), api.OK)
	wantErr(t, "Write", d.Write(1, p(2)), api.OK)
	wantErr(t, "Flip", d.Flip(1, 0, 0x80), api.OK)
	wantErr(t, "Flip", d.Flip(1, 64*8, 0x80), api.OK)
	wantPage(t, d, 1, p(2))
	wantCounts(t, d, 1, 2, 0, 2)
	wantImage(t, d, p(0), with(with(p(0), 0, 0x80), 64, 0x80), p(0))
	wantCrash(t, d, 2, 1, 8)
	wantImage(t, d, p(0), with(quarters(1, 0, 0, 2), 64, 0x80), p(0))
	wantErr(t, "Write", d.Write(1, p(3)), api.OK)
	wantErr(t, "Sync", d.Sync(), api.OK)
	wantImage(t, d, p(0), p(3), p(0))
}

// P4.11
func TestFlipWithoutPower(t *testing.T) {
	d := without(t, 3, p(4))
	wantErr(t, "Flip", d.Flip(0, 0, 1), api.OK)
	wantErr(t, "Flip", d.Flip(2, 2040, 0xFFFFFFFF), api.OK)
	wantErr(t, "Flip", d.Flip(3, -1, 1), api.ErrPage)
	wantErr(t, "Flip", d.Flip(0, -1, 1), api.ErrArg)
	wantPower(t, d, false)
	wantCounts(t, d, 0, 1, 0, 1)
	wantEpoch(t, d, 0)
	wantImage(t, d, with(p(0), 0, 1), p(0), with(p(0), 255, 0xFF))
	wantCrash(t, d, 1, 2)
	wantImage(t, d, with(quarters(0, 4, 0, 0), 0, 1), p(0), with(p(0), 255, 0xFF))
}

// P4.12, and R5
func TestImageIsNewMemory(t *testing.T) {
	d := loaded(t, unlike(3*256))
	wantErr(t, "Write", d.Write(0, p(1)), api.OK)
	first, second := d.Image(), d.Image()
	if len(first) != 3*256 {
		t.Errorf("Image has %d bytes", len(first))
	}
	scribble(first)
	_ = append(first, p(9)...)
	if !bytes.Equal(second, unlike(3*256)) {
		t.Errorf("two images share memory")
	}
	wantImage(t, d, unlike(3*256))
	wantPage(t, d, 0, p(1))
	wantPage(t, d, 2, unlike(3 * 256)[512:])
	wantErr(t, "Sync", d.Sync(), api.OK)
	wantErr(t, "Flip", d.Flip(2, 0, 0xFFFFFFFF), api.OK)
	if !bytes.Equal(second, unlike(3*256)) {
		t.Errorf("an image changes with the disk")
	}
}

// P4.12
func TestImageLength(t *testing.T) {
	for _, pages := range []int{3, 50, 4096} {
		d := without(t, pages, p(1))
		if got := len(d.Image()); got != 256*pages {
			t.Errorf("Image of %d pages has %d bytes", pages, got)
		}
	}
}

// P4.13
func TestEpochAndClaim(t *testing.T) {
	d := fresh(t, 3)
	wantErr(t, "Write", d.Write(1, p(1)), api.OK)
	wantPage(t, d, 1, p(1))
	for i := 1; i <= 5; i++ {
		if got := d.Claim(); got != i {
			t.Errorf("Claim: %d, want %d", got, i)
		}
		wantEpoch(t, d, i)
	}
	wantCounts(t, d, 1, 1, 0, 1)
	wantPower(t, d, true)
	wantImage(t, d, p(0), p(0), p(0))
	wantPage(t, d, 1, p(1))
	wantCrash(t, d, 1)
	wantEpoch(t, d, 6)
	if got := d.Claim(); got != 7 {
		t.Errorf("Claim: %d, want 7", got)
	}
}

// P4.13: a Claim neither disarms nor is counted on, and is the same without power.
func TestClaimChangesNothingElse(t *testing.T) {
	d := fresh(t, 3)
	d.Arm(2)
	d.Claim()
	d.Claim()
	wantErr(t, "the first act", d.Write(0, p(1)), api.OK)
	d.Claim()
	wantErr(t, "the second act", d.Write(0, p(2)), api.ErrDown)
	if got := d.Claim(); got != 4 {
		t.Errorf("Claim without power: %d, want 4", got)
	}
	wantPower(t, d, false)
	wantCounts(t, d, 0, 2, 0, 2)
	wantCrash(t, d, 2, 0, 15)
	wantEpoch(t, d, 5)
	wantImage(t, d, p(2), p(0), p(0))
}

// P4.13: what else a disk does leaves the epoch as it is.
func TestEpochOfOtherCalls(t *testing.T) {
	d := fresh(t, 3)
	d.Write(0, p(1))
	d.Write(9, p(1))
	d.Read(0)
	d.Sync()
	d.Flip(0, 0, 1)
	d.Image()
	d.Arm(1)
	d.Write(0, p(1))
	d.Write(0, p(1))
	d.Sync()
	d.Read(0)
	wantEpoch(t, d, 0)
	loaded(t, d.Image()).Claim()
	wantEpoch(t, d, 0)
}

// P4.14: each row goes on from the one above it.
func TestCountsBehindEachCall(t *testing.T) {
	d := fresh(t, 3)
	for i, c := range []struct {
		name string
		do   func()
		want api.Counts
	}{
		{"Read", func() { d.Read(0) }, api.Counts{Reads: 1}},
		{"Read of no page", func() { d.Read(3) }, api.Counts{Reads: 1}},
		{"Write", func() { d.Write(0, p(1)) }, api.Counts{Reads: 1, Writes: 1, Open: 1}},
		{"Write of the same page", func() { d.Write(0, p(2)) }, api.Counts{Reads: 1, Writes: 2, Open: 2}},
		{"Write of no page", func() { d.Write(-1, p(2)) }, api.Counts{Reads: 1, Writes: 2, Open: 2}},
		{"Write of no bytes", func() { d.Write(0, nil) }, api.Counts{Reads: 1, Writes: 2, Open: 2}},
		{"Read of an open one", func() { d.Read(0) }, api.Counts{Reads: 2, Writes: 2, Open: 2}},
		{"Sync", func() { d.Sync() }, api.Counts{Reads: 2, Writes: 2, Syncs: 1}},
		{"Sync of nothing", func() { d.Sync() }, api.Counts{Reads: 2, Writes: 2, Syncs: 2}},
		{"Flip", func() { d.Flip(0, 0, 1) }, api.Counts{Reads: 2, Writes: 2, Syncs: 2}},
		{"Image", func() { d.Image() }, api.Counts{Reads: 2, Writes: 2, Syncs: 2}},
		{"Claim", func() { d.Claim() }, api.Counts{Reads: 2, Writes: 2, Syncs: 2}},
		{"Epoch", func() { d.Epoch() }, api.Counts{Reads: 2, Writes: 2, Syncs: 2}},
		{"Pages", func() { d.Pages() }, api.Counts{Reads: 2, Writes: 2, Syncs: 2}},
		{"Power", func() { d.Power() }, api.Counts{Reads: 2, Writes: 2, Syncs: 2}},
		{"Counts", func() { d.Counts() }, api.Counts{Reads: 2, Writes: 2, Syncs: 2}},
		{"Write", func() { d.Write(1, p(1)) }, api.Counts{Reads: 2, Writes: 3, Syncs: 2, Open: 1}},
		{"Arm", func() { d.Arm(1) }, api.Counts{Reads: 2, Writes: 3, Syncs: 2, Open: 1}},
		{"the armed Write", func() { d.Write(2, p(1)) }, api.Counts{Reads: 2, Writes: 4, Syncs: 2, Open: 2}},
		{"Read without power", func() { d.Read(0) }, api.Counts{Reads: 2, Writes: 4, Syncs: 2, Open: 2}},
		{"Write without power", func() { d.Write(0, p(1)) }, api.Counts{Reads: 2, Writes: 4, Syncs: 2, Open: 2}},
		{"Sync without power", func() { d.Sync() }, api.Counts{Reads: 2, Writes: 4, Syncs: 2, Open: 2}},
		{"Crash", func() { d.Crash([]byte{1}) }, api.Counts{Reads: 2, Writes: 4, Syncs: 2}},
		{"Write", func() { d.Write(1, p(1)) }, api.Counts{Reads: 2, Writes: 5, Syncs: 2, Open: 1}},
		{"Arm", func() { d.Arm(1) }, api.Counts{Reads: 2, Writes: 5, Syncs: 2, Open: 1}},
		{"the armed Sync", func() { d.Sync() }, api.Counts{Reads: 2, Writes: 5, Syncs: 2, Open: 1}},
		{"Crash", func() { d.Crash(nil) }, api.Counts{Reads: 2, Writes: 5, Syncs: 2}},
		{"Crash of nothing", func() { d.Crash(nil) }, api.Counts{Reads: 2, Writes: 5, Syncs: 2}},
	} {
		c.do()
		if d.Counts() != c.want {
			t.Errorf("row %d, %s: %+v, want %+v", i, c.name, d.Counts(), c.want)
		}
	}
}

// P4.14: Counts is the embedded meter's own, and what it told does not change.
func TestCountsArePromoted(t *testing.T) {
	d := fresh(t, 3)
	var meter *disk.Meter = &d.Meter
	told := d.Counts()
	wantErr(t, "Write", d.Write(0, p(1)), api.OK)
	if told != (api.Counts{}) || meter.Counts() != d.Counts() || meter.Counts().Writes != 1 {
		t.Errorf("told ahead %+v, the meter's %+v, the disk's %+v", told, meter.Counts(), d.Counts())
	}
}
