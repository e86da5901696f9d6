package file_test

import (
	"bytes"
	"encoding/binary"
	"hash/crc32"
	"slices"
	"testing"

	"ledger/api"
	"ledger/disk"
	"ledger/file"
)

const (
	highest = int(^uint(0) >> 1)
	lowest  = -highest - 1
)

// sealed lays the right sum over the last four of a block's n first bytes.
func sealed(b []byte, n int) []byte {
	binary.LittleEndian.PutUint32(b[n-4:], crc32.ChecksumIEEE(b[:n-4]))
	return b
}

// page tells the bytes of a page by the table of chapter 5.
func page(kind, number int, load []byte) []byte {
	b := make([]byte, 256)
	b[0], b[1] = byte(kind), byte(len(load))
	binary.LittleEndian.PutUint32(b[2:], uint32(number))
	copy(b[6:252], load)
	return sealed(b, 256)
}

// slot tells the bytes of a superblock's page by the table of chapter 5.
func slot(s api.Super) []byte {
	b := make([]byte, 256)
	copy(b, "LDG1")
	b[4] = byte(s.Width)
	binary.LittleEndian.PutUint64(b[8:], uint64(s.Generation))
	binary.LittleEndian.PutUint32(b[16:], uint32(s.Mark))
	binary.LittleEndian.PutUint32(b[20:], uint32(s.Head))
	binary.LittleEndian.PutUint32(b[24:], uint32(s.Pages))
	return sealed(b, 64)
}

// super tells a superblock by its five numbers.
func super(width, generation, mark, head, pages int) api.Super {
	return api.Super{Width: width, Generation: generation, Mark: mark, Head: head, Pages: pages}
}

// text tells n bytes, others for another seed.
func text(seed, n int) []byte {
	b := make([]byte, n)
	x := uint32(seed)*2654435761 + 1
	for i := range b {
		x = x*1664525 + 1013904223
		b[i] = byte(x >> 24)
	}
	return b
}

func fresh(t *testing.T, pages int) *disk.Disk {
	t.Helper()
	d, e := disk.New(pages)
	if d == nil || e != api.OK {
		t.Fatalf("disk.New(%d): %v", pages, e)
	}
	return d
}

// image tells the bytes of a disk of so many pages, the first of which are given.
func image(pages int, first ...[]byte) []byte {
	b := make([]byte, 256*pages)
	copy(b, slices.Concat(first...))
	return b
}

func loaded(t *testing.T, image []byte) *disk.Disk {
	t.Helper()
	d, e := disk.Load(image)
	if d == nil || e != api.OK {
		t.Fatalf("disk.Load of %d bytes: %v", len(image), e)
	}
	return d
}

func opened(t *testing.T, d *disk.Disk) *file.File {
	t.Helper()
	f, e := file.Open(d)
	if f == nil || e != api.OK {
		t.Fatalf("Open: %d (%v)", e, e)
	}
	return f
}

// made tells a disk with an empty file, and that file.
func made(t *testing.T, pages, width int) (*disk.Disk, *file.File) {
	t.Helper()
	d := fresh(t, pages)
	if e := file.Format(d, width); e != api.OK {
		t.Fatalf("Format: %d (%v)", e, e)
	}
	return d, opened(t, d)
}

// cut ends a disk's power, and closes nothing.
func cut(t *testing.T, d *disk.Disk) {
	t.Helper()
	d.Arm(1)
	if e := d.Sync(); e != api.ErrDown || d.Power() {
		t.Fatalf("the armed Sync: %d (%v)", e, e)
	}
}

func wantErr(t *testing.T, name string, got, want api.Errno) {
	t.Helper()
	if got != want {
		t.Errorf("%s: %d (%v), want %d (%v)", name, got, got, want, want)
	}
}

// wantKept asks for what a File tells of itself.
func wantKept(t *testing.T, name string, f *file.File, s api.Super, next int) {
	t.Helper()
	if f.Super() != s || f.Next() != next {
		t.Errorf("%s: %+v, next %d, want %+v, next %d", name, f.Super(), f.Next(), s, next)
	}
}

func wantAppend(t *testing.T, f *file.File, kind int, load []byte, want int) {
	t.Helper()
	if got, e := f.Append(kind, load); got != want || e != api.OK {
		t.Errorf("Append(%d, %d bytes): %d, %d (%v), want %d", kind, len(load), got, e, e, want)
	}
}

func wantNoAppend(t *testing.T, f *file.File, kind int, load []byte, want api.Errno) {
	t.Helper()
	if got, e := f.Append(kind, load); got != 0 || e != want {
		t.Errorf("Append(%d, %d bytes): %d, %d (%v), want 0, %d (%v)", kind, len(load), got, e, e, want, want)
	}
}

func wantRead(t *testing.T, f *file.File, page, kind int, load []byte) {
	t.Helper()
	if k, l, e := f.Read(page); k != kind || !bytes.Equal(l, load) || e != api.OK {
		t.Errorf("Read(%d): %d, %v, %d (%v), want %d, %v", page, k, l, e, e, kind, load)
	}
}

func wantNoRead(t *testing.T, f *file.File, page int, want api.Errno) {
	t.Helper()
	if k, l, e := f.Read(page); k != 0 || l != nil || e != want {
		t.Errorf("Read(%d): %d, %v, %d (%v), want 0, nil, %d (%v)", page, k, l, e, e, want, want)
	}
}

func wantNoOpen(t *testing.T, name string, d *disk.Disk, want api.Errno) {
	t.Helper()
	if f, e := file.Open(d); f != nil || e != want {
		t.Errorf("%s: Open: %v, %d (%v), want nil, %d (%v)", name, f, e, e, want, want)
	}
}

// wantActs asks how many reads, writes and syncs a call makes, and that what is open and the image fit to that.
func wantActs(t *testing.T, name string, d *disk.Disk, reads, writes, syncs int, call func()) {
	t.Helper()
	was := d.Counts()
	call()
	now := d.Counts()
	if now.Reads-was.Reads != reads || now.Writes-was.Writes != writes || now.Syncs-was.Syncs != syncs {
		t.Errorf("%s: from %+v to %+v, want %d reads, %d writes, %d syncs", name, was, now, reads, writes, syncs)
	}
}

// wantUntouched asks that a call changes nothing of a disk, not even how often it was read.
func wantUntouched(t *testing.T, name string, d *disk.Disk, call func()) {
	t.Helper()
	was, counts, epoch, power := d.Image(), d.Counts(), d.Epoch(), d.Power()
	call()
	if !bytes.Equal(d.Image(), was) || d.Counts() != counts || d.Epoch() != epoch || d.Power() != power {
		t.Errorf("%s: the disk is another one: %+v from %+v, epoch %d from %d", name, d.Counts(), counts, d.Epoch(), epoch)
	}
}

// wantPage asks for the synced bytes of a page.
func wantPage(t *testing.T, name string, d *disk.Disk, page int, want []byte) {
	t.Helper()
	if got := d.Image()[256*page : 256*page+256]; !bytes.Equal(got, want) {
		t.Errorf("%s: page %d: %v, want %v", name, page, got, want)
	}
}

// allFates calls back with each row of n fates.
func allFates(n int, call func(fates []byte)) {
	fates := make([]byte, n)
	for {
		call(slices.Clone(fates))
		i := 0
		for i < n && fates[i] == 15 {
			fates[i] = 0
			i++
		}
		if i == n {
			return
		}
		fates[i]++
	}
}
