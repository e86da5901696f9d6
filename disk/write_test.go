package disk_test

import (
	"bytes"
	"slices"
	"testing"

	"ledger/api"
)

// P4.4
func TestPagesWithoutPower(t *testing.T) {
	for _, pages := range []int{3, 16, 4096} {
		d := without(t, pages, p(1))
		wantPower(t, d, false)
		if d.Pages() != pages {
			t.Errorf("Pages without power: %d, want %d", d.Pages(), pages)
		}
		d.Crash(nil)
		if d.Pages() != pages {
			t.Errorf("Pages behind a crash: %d, want %d", d.Pages(), pages)
		}
	}
}

// P4.5
func TestReadRefused(t *testing.T) {
	d := fresh(t, 4)
	for _, page := range []int{lowest, -256, -1, 4, 5, 4096, highest} {
		wantNone(t, d, page, api.ErrPage)
	}
	wantCounts(t, d, 0, 0, 0, 0)
	d = without(t, 4)
	for _, page := range []int{lowest, -1, 0, 3, 4, highest} {
		wantNone(t, d, page, api.ErrDown)
	}
	wantCounts(t, d, 0, 0, 0, 0)
}

// P4.5
func TestReadTellsTheNewest(t *testing.T) {
	d := loaded(t, slices.Concat(p(10), p(11), p(12), p(13)))
	wantErr(t, "Write", d.Write(1, p(1)), api.OK)
	wantPage(t, d, 1, p(1))
	wantErr(t, "Write", d.Write(2, p(2)), api.OK)
	wantErr(t, "Write", d.Write(1, p(3)), api.OK)
	wantErr(t, "Write", d.Write(3, p(4)), api.OK)
	for range 2 {
		wantPage(t, d, 0, p(10))
		wantPage(t, d, 1, p(3))
		wantPage(t, d, 2, p(2))
		wantPage(t, d, 3, p(4))
	}
	wantImage(t, d, p(10), p(11), p(12), p(13))
	wantErr(t, "Write", d.Write(1, p(1)), api.OK)
	wantPage(t, d, 1, p(1))
	wantCounts(t, d, 10, 5, 0, 5)
}

// P4.5: a write that is no more open is not the newest one, whatever its place in the list was.
func TestReadBehindSyncAndCrash(t *testing.T) {
	d := fresh(t, 4)
	wantErr(t, "Write", d.Write(0, p(1)), api.OK)
	wantErr(t, "Write", d.Write(1, p(2)), api.OK)
	wantErr(t, "Sync", d.Sync(), api.OK)
	wantErr(t, "Write", d.Write(2, p(3)), api.OK)
	wantPage(t, d, 0, p(1))
	wantPage(t, d, 1, p(2))
	wantPage(t, d, 2, p(3))
	wantErr(t, "Write", d.Write(1, p(4)), api.OK)
	wantCrash(t, d, 2)
	wantErr(t, "Write", d.Write(3, p(5)), api.OK)
	wantErr(t, "Write", d.Write(0, p(6)), api.OK)
	for page, b := range []byte{6, 2, 0, 5} {
		wantPage(t, d, page, p(b))
	}
}

// P4.5, and R5
func TestReadAnswersNewMemory(t *testing.T) {
	d := loaded(t, slices.Concat(p(10), p(11), p(12)))
	wantErr(t, "Write", d.Write(1, p(1)), api.OK)
	wantErr(t, "Write", d.Write(2, p(2)), api.OK)
	for page, want := range [][]byte{p(10), p(1), p(2)} {
		first, _ := d.Read(page)
		second, _ := d.Read(page)
		scribble(first)
		_ = append(first, p(77)...)
		if !bytes.Equal(second, want) {
			t.Errorf("two answers of Read(%d) share memory", page)
		}
	}
	for page, want := range [][]byte{p(10), p(1), p(2)} {
		wantPage(t, d, page, want)
	}
	wantImage(t, d, p(10), p(11), p(12))
	wantErr(t, "Sync", d.Sync(), api.OK)
	wantImage(t, d, p(10), p(1), p(2))
	answer, _ := d.Read(1)
	wantErr(t, "Write", d.Write(1, p(99)), api.OK)
	wantErr(t, "Sync", d.Sync(), api.OK)
	wantErr(t, "Flip", d.Flip(1, 0, 1), api.OK)
	if !bytes.Equal(answer, p(1)) {
		t.Errorf("an answer of Read changes with the disk")
	}
}

// P4.6
func TestWriteRefused(t *testing.T) {
	for _, c := range []struct {
		name string
		page int
		data []byte
		want api.Errno
	}{
		{"the lowest page", lowest, p(1), api.ErrPage},
		{"page -1", -1, p(1), api.ErrPage},
		{"page Pages()", 4, p(1), api.ErrPage},
		{"page Pages() + 1", 5, p(1), api.ErrPage},
		{"the highest page", highest, p(1), api.ErrPage},
		{"no such page, and no data", -1, nil, api.ErrPage},
		{"no such page, and data too long", 4, unlike(257), api.ErrPage},
		{"nil", 0, nil, api.ErrSize},
		{"no bytes", 3, []byte{}, api.ErrSize},
		{"one byte", 0, []byte{1}, api.ErrSize},
		{"a sector", 1, unlike(64), api.ErrSize},
		{"255 bytes", 2, unlike(255), api.ErrSize},
		{"257 bytes", 2, unlike(257), api.ErrSize},
		{"two pages", 3, unlike(512), api.ErrSize},
	} {
		t.Run(c.name, func(t *testing.T) {
			d := fresh(t, 4)
			wantErr(t, "Write", d.Write(c.page, c.data), c.want)
			wantCounts(t, d, 0, 0, 0, 0)
			wantErr(t, "Sync", d.Sync(), api.OK)
			wantImage(t, d, p(0), p(0), p(0), p(0))
			down := without(t, 4)
			wantErr(t, "Write without power", down.Write(c.page, c.data), api.ErrDown)
			wantCounts(t, down, 0, 0, 0, 0)
		})
	}
}

// P4.6
func TestWriteIsOpen(t *testing.T) {
	d := fresh(t, 3)
	for page := range 3 {
		wantErr(t, "Write", d.Write(page, p(byte(page+1))), api.OK)
		wantCounts(t, d, 0, page+1, 0, page+1)
	}
	wantErr(t, "Write", d.Write(0, p(9)), api.OK)
	wantCounts(t, d, 0, 4, 0, 4)
	wantImage(t, d, p(0), p(0), p(0))
	wantCrash(t, d, 4, 15, 0, 15)
	wantImage(t, d, p(1), p(0), p(3))
}

// P4.6, and R5
func TestWriteKeepsNothing(t *testing.T) {
	d := fresh(t, 3)
	text := unlike(256)
	data, whole := roomy(text)
	ahead := slices.Clone(whole)
	wantErr(t, "Write", d.Write(1, data), api.OK)
	wantErr(t, "Write", d.Write(2, data), api.OK)
	scribble(whole)
	wantPage(t, d, 1, text)
	wantErr(t, "Sync", d.Sync(), api.OK)
	wantImage(t, d, p(0), text, text)
	scribble(whole)
	wantErr(t, "Write", d.Write(0, data), api.OK)
	wantErr(t, "Sync", d.Sync(), api.OK)
	wantErr(t, "Flip", d.Flip(0, 0, 255), api.OK)
	wantErr(t, "Write", d.Write(0, p(5)), api.OK)
	wantCrash(t, d, 1, 15)
	if !bytes.Equal(whole, ahead) {
		t.Errorf("what was written changes with the disk")
	}
}

// P4.7
func TestSyncCloses(t *testing.T) {
	d := fresh(t, 4)
	wantErr(t, "Sync", d.Sync(), api.OK)
	wantCounts(t, d, 0, 0, 1, 0)
	wantErr(t, "Write", d.Write(3, unlike(256)), api.OK)
	wantErr(t, "Write", d.Write(1, p(1)), api.OK)
	wantErr(t, "Write", d.Write(0, p(2)), api.OK)
	wantErr(t, "Write", d.Write(1, p(3)), api.OK)
	wantErr(t, "Sync", d.Sync(), api.OK)
	wantCounts(t, d, 0, 4, 2, 0)
	wantImage(t, d, p(2), p(3), p(0), unlike(256))
	wantErr(t, "Sync", d.Sync(), api.OK)
	wantCounts(t, d, 0, 4, 3, 0)
	wantImage(t, d, p(2), p(3), p(0), unlike(256))
	wantCrash(t, d, 0, 15, 15, 15, 15)
	wantImage(t, d, p(2), p(3), p(0), unlike(256))
}

// P4.7
func TestSyncWithoutPower(t *testing.T) {
	d := without(t, 3, p(1), p(2))
	for range 3 {
		wantErr(t, "Sync", d.Sync(), api.ErrDown)
	}
	wantCounts(t, d, 0, 2, 0, 2)
	wantImage(t, d, p(0), p(0), p(0))
	wantCrash(t, d, 2, 15, 15)
	wantImage(t, d, p(1), p(2), p(0))
	wantErr(t, "Sync", d.Sync(), api.OK)
	wantCounts(t, d, 0, 2, 1, 0)
}

// P4.7: writes that one Sync closed are not closed anew by the next, over what has come since.
func TestSyncClosesOnce(t *testing.T) {
	d := fresh(t, 3)
	wantErr(t, "Write", d.Write(0, p(1)), api.OK)
	wantErr(t, "Sync", d.Sync(), api.OK)
	wantErr(t, "Flip", d.Flip(0, 0, 2), api.OK)
	wantErr(t, "Sync", d.Sync(), api.OK)
	wantImage(t, d, with(p(1), 0, 2), p(0), p(0))
}
