package disk_test

import (
	"bytes"
	"slices"
	"testing"

	"ledger/api"
	"ledger/disk"
)

const (
	highest = int(^uint(0) >> 1)
	lowest  = -highest - 1
)

// p tells a page of one byte.
func p(b byte) []byte { return bytes.Repeat([]byte{b}, api.PageSize) }

// quarters tells a page whose four sectors are each of one byte.
func quarters(a, b, c, d byte) []byte {
	var page []byte
	for _, x := range []byte{a, b, c, d} {
		page = append(page, bytes.Repeat([]byte{x}, api.SectorSize)...)
	}
	return page
}

// unlike tells n bytes no page of which is like another, nor a sector.
func unlike(n int) []byte {
	b := make([]byte, n)
	x := uint32(1)
	for i := range b {
		x = x*1664525 + 1013904223
		b[i] = byte(x >> 24)
	}
	return b
}

// with tells bytes with one of them turned.
func with(b []byte, at int, mask byte) []byte {
	b = slices.Clone(b)
	b[at] ^= mask
	return b
}

func fresh(t *testing.T, pages int) *disk.Disk {
	t.Helper()
	d, e := disk.New(pages)
	if d == nil || e != api.OK {
		t.Fatalf("New(%d): %v", pages, e)
	}
	return d
}

func loaded(t *testing.T, image []byte) *disk.Disk {
	t.Helper()
	d, e := disk.Load(image)
	if d == nil || e != api.OK {
		t.Fatalf("Load of %d bytes: %v", len(image), e)
	}
	return d
}

// without tells a disk whose power went at a Sync, with these pages open on it.
func without(t *testing.T, pages int, writes ...[]byte) *disk.Disk {
	t.Helper()
	d := fresh(t, pages)
	for i, data := range writes {
		wantErr(t, "Write", d.Write(i, data), api.OK)
	}
	d.Arm(1)
	wantErr(t, "the armed Sync", d.Sync(), api.ErrDown)
	return d
}

func wantErr(t *testing.T, name string, got, want api.Errno) {
	t.Helper()
	if got != want {
		t.Errorf("%s: %d (%v), want %d (%v)", name, got, got, want, want)
	}
}

func wantPage(t *testing.T, d *disk.Disk, page int, want []byte) {
	t.Helper()
	got, e := d.Read(page)
	if e != api.OK || !bytes.Equal(got, want) {
		t.Errorf("Read(%d): %v, %v, want %v", page, got, e, want)
	}
}

func wantNone(t *testing.T, d *disk.Disk, page int, want api.Errno) {
	t.Helper()
	if got, e := d.Read(page); got != nil || e != want {
		t.Errorf("Read(%d): %v, %v, want nil, %v", page, got, e, want)
	}
}

func wantImage(t *testing.T, d *disk.Disk, pages ...[]byte) {
	t.Helper()
	if got := d.Image(); !bytes.Equal(got, slices.Concat(pages...)) {
		t.Errorf("Image: %v, want %v", got, slices.Concat(pages...))
	}
}

func wantCounts(t *testing.T, d *disk.Disk, reads, writes, syncs, open int) {
	t.Helper()
	want := api.Counts{Reads: reads, Writes: writes, Syncs: syncs, Open: open}
	if d.Counts() != want {
		t.Errorf("Counts: %+v, want %+v", d.Counts(), want)
	}
}

func wantCrash(t *testing.T, d *disk.Disk, want int, fates ...byte) {
	t.Helper()
	if got := d.Crash(fates); got != want {
		t.Errorf("Crash(%v): %d, want %d", fates, got, want)
	}
}

func wantPower(t *testing.T, d *disk.Disk, want bool) {
	t.Helper()
	if d.Power() != want {
		t.Errorf("Power: %v, want %v", d.Power(), want)
	}
}

func wantEpoch(t *testing.T, d *disk.Disk, want int) {
	t.Helper()
	if d.Epoch() != want {
		t.Errorf("Epoch: %d, want %d", d.Epoch(), want)
	}
}

// scribble writes over all bytes of b and of the room behind it.
func scribble(b []byte) {
	b = b[:cap(b)]
	for i := range b {
		b[i] ^= 0xFF
	}
}

// roomy tells the same bytes cut out of a longer list, and that list.
func roomy(b []byte) (cut, whole []byte) {
	whole = slices.Concat(b, []byte("spare room"))
	return whole[:len(b)], whole
}
