package disk_test

import (
	"bytes"
	"slices"
	"testing"

	"ledger/api"
	"ledger/disk"
)

// P4.1
func TestNewRefused(t *testing.T) {
	for _, pages := range []int{lowest, -4096, -3, -1, 0, 1, 2, 4097, 8192, highest} {
		if d, e := disk.New(pages); d != nil || e != api.ErrPages {
			t.Errorf("New(%d): %v, %v", pages, d != nil, e)
		}
	}
}

// P4.1
func TestNewIsZero(t *testing.T) {
	for _, pages := range []int{3, 4, 100, 4095, 4096} {
		d := fresh(t, pages)
		if d.Pages() != pages {
			t.Errorf("New(%d).Pages(): %d", pages, d.Pages())
		}
		if !bytes.Equal(d.Image(), make([]byte, pages*256)) {
			t.Errorf("New(%d): its synced bytes are not all zero", pages)
		}
		wantPage(t, d, 0, p(0))
		wantPage(t, d, pages-1, p(0))
		wantNone(t, d, pages, api.ErrPage)
	}
}

// P4.2
func TestLoadRefused(t *testing.T) {
	for _, c := range []struct {
		length int
		want   api.Errno
	}{
		{0, api.ErrPages}, {1, api.ErrSize}, {3, api.ErrSize}, {255, api.ErrSize}, {256, api.ErrPages}, {257, api.ErrSize},
		{511, api.ErrSize}, {512, api.ErrPages}, {513, api.ErrSize}, {767, api.ErrSize}, {769, api.ErrSize}, {832, api.ErrSize},
		{4096*256 - 1, api.ErrSize}, {4096*256 + 1, api.ErrSize}, {4097 * 256, api.ErrPages}, {4097*256 + 1, api.ErrSize}, {9000 * 256, api.ErrPages},
	} {
		if d, e := disk.Load(unlike(c.length)); d != nil || e != c.want {
			t.Errorf("Load of %d bytes: %v, %v, want nil, %v", c.length, d != nil, e, c.want)
		}
	}
	if d, e := disk.Load(nil); d != nil || e != api.ErrPages {
		t.Errorf("Load of nil: %v, %v", d != nil, e)
	}
}

// P4.2
func TestLoadHoldsTheImage(t *testing.T) {
	for _, pages := range []int{3, 4, 17, 4096} {
		image := unlike(pages * 256)
		d := loaded(t, image)
		if d.Pages() != pages || !bytes.Equal(d.Image(), image) {
			t.Errorf("Load of %d pages: %d pages, image alike: %v", pages, d.Pages(), bytes.Equal(d.Image(), image))
		}
		for page := range pages {
			wantPage(t, d, page, image[256*page:256*page+256])
		}
	}
}

// P4.2
func TestLoadKeepsNothing(t *testing.T) {
	image, whole := roomy(unlike(4 * 256))
	ahead := slices.Clone(whole)
	d := loaded(t, image)
	wantErr(t, "Write", d.Write(3, p(1)), api.OK)
	wantErr(t, "Sync", d.Sync(), api.OK)
	wantErr(t, "Flip", d.Flip(0, 0, 1), api.OK)
	if !bytes.Equal(whole, ahead) {
		t.Errorf("what the disk was loaded from changes with it")
	}
	scribble(whole)
	wantImage(t, d, with(ahead[:256], 0, 1), ahead[256:768], p(1))
	wantPage(t, d, 2, ahead[512:768])
}

// P4.3
func TestNewAndLoadBegin(t *testing.T) {
	for _, d := range []*disk.Disk{fresh(t, 3), loaded(t, unlike(5*256))} {
		image := d.Image()
		wantCounts(t, d, 0, 0, 0, 0)
		wantPower(t, d, true)
		wantEpoch(t, d, 0)
		for i := range 20 {
			wantErr(t, "Write", d.Write(i%3, p(9)), api.OK)
			wantErr(t, "Sync", d.Sync(), api.OK)
		}
		wantCrash(t, d, 0, 15)
		if bytes.Equal(d.Image(), image) {
			t.Errorf("twenty writes left no trace")
		}
	}
	wantCrash(t, fresh(t, 3), 0, 15, 15)
}

// What every disk has it has alone.
func TestDisksHaveNothingInCommon(t *testing.T) {
	for _, c := range []struct {
		name string
		do   func(d *disk.Disk)
	}{
		{"Write", func(d *disk.Disk) { d.Write(1, p(9)) }},
		{"Write and Sync", func(d *disk.Disk) { d.Write(1, p(9)); d.Sync() }},
		{"Read", func(d *disk.Disk) { d.Read(1) }},
		{"Arm", func(d *disk.Disk) { d.Arm(1) }},
		{"loss of power", func(d *disk.Disk) { d.Arm(1); d.Sync() }},
		{"Crash", func(d *disk.Disk) { d.Write(1, p(9)); d.Crash([]byte{15}) }},
		{"Flip", func(d *disk.Disk) { d.Flip(1, 8, 255) }},
		{"Claim", func(d *disk.Disk) { d.Claim() }},
	} {
		d, beside := fresh(t, 3), fresh(t, 3)
		wantErr(t, "Write", beside.Write(0, p(4)), api.OK)
		behind := loaded(t, d.Image())
		c.do(d)
		t.Run(c.name, func(t *testing.T) {
			wantCounts(t, beside, 0, 1, 0, 1)
			wantCounts(t, behind, 0, 0, 0, 0)
			for _, other := range []*disk.Disk{beside, behind} {
				wantPower(t, other, true)
				wantEpoch(t, other, 0)
				wantImage(t, other, p(0), p(0), p(0))
				wantPage(t, other, 1, p(0))
				wantErr(t, "Sync", other.Sync(), api.OK)
			}
			wantImage(t, beside, p(4), p(0), p(0))
			wantImage(t, behind, p(0), p(0), p(0))
		})
	}
}
