package store_test

import (
	"testing"

	"ledger/api"
	"ledger/disk"
	"ledger/frame"
)

// half makes a store of eight pages: 2 and 3 are on the disk, 4 and 5 are staged, nothing is clean.
func half(t *testing.T, promise string, room int) *rig {
	t.Helper()
	r := begun(t, promise, 8, 0)
	r.stages(1, []byte("a"), 2)
	r.stages(2, []byte("bb"), 3)
	r.flushes(3, api.OK)
	r = over(t, promise, r.d, room)
	r.stages(3, []byte("ccc"), 4)
	r.stages(1, nil, 5)
	return r
}

// P8.4: which pages there are: from 2 to Next - 1. A page that is none is not asked of the cache.
func TestLoadPages(t *testing.T) {
	r := half(t, "P8.4", 4)
	r.untouched(func() {
		for _, page := range []int{lowest, -2, -1, 0, 1, 6, 7, 8, 4096, 1<<32 + 2, highest} {
			r.loadsNot(page, api.ErrPage)
		}
	})
	r.loads(2, 1, []byte("a"))
	r.loads(3, 2, []byte("bb"))
	r.loads(4, 3, []byte("ccc"))
	r.loads(5, 1, nil)
	r.tallies(2, 2, 0, 2, 2)
	begun(t, "P8.4: an empty file", 3, 1).loadsNot(2, api.ErrPage)
}

// P8.4: what is staged or clean is a hit, without a read; all else a miss, with one.
func TestLoadHitsAndMisses(t *testing.T) {
	r := half(t, "P8.4", 1)
	hit := func(page, kind int, load string) {
		t.Helper()
		r.acts(0, 0, 0, func() { r.loads(page, kind, []byte(load)) })
	}
	miss := func(page, kind int, load string) {
		t.Helper()
		r.acts(1, 0, 0, func() { r.loads(page, kind, []byte(load)) })
	}
	hit(4, 3, "ccc")
	hit(5, 1, "")
	r.tallies(2, 0, 0, 0, 2)
	miss(2, 1, "a")
	r.tallies(2, 1, 0, 1, 2)
	hit(2, 1, "a")
	r.tallies(3, 1, 0, 1, 2)
	miss(3, 2, "bb")
	r.tallies(3, 2, 1, 1, 2)
	miss(2, 1, "a")
	r.tallies(3, 3, 2, 1, 2)
	hit(4, 3, "ccc")
	r.tallies(4, 3, 2, 1, 2)
}

// P8.4: with no room each Load of a page on the disk is a miss.
func TestLoadWithoutRoom(t *testing.T) {
	r := half(t, "P8.4", 0)
	for i := range 3 {
		r.acts(1, 0, 0, func() { r.loads(3, 2, []byte("bb")) })
		r.tallies(i, i+1, i+1, 0, 2)
		r.acts(0, 0, 0, func() { r.loads(4, 3, []byte("ccc")) })
	}
}

// P8.4: what was used longest ago goes first, and a Load is a use.
func TestLoadOrder(t *testing.T) {
	r := begun(t, "P8.4", 8, 2)
	for page := 2; page < 6; page++ {
		r.stages(1, text(page, page), page)
	}
	r.flushes(0, api.OK) // 5 is the newest, then 4
	r.acts(0, 0, 0, func() { r.loads(4, 1, text(4, 4)) })
	r.acts(1, 0, 0, func() { r.loads(2, 1, text(2, 2)) }) // 5 goes
	r.acts(0, 0, 0, func() { r.loads(4, 1, text(4, 4)) })
	r.acts(1, 0, 0, func() { r.loads(5, 1, text(5, 5)) }) // 2 goes
	r.acts(0, 0, 0, func() { r.loads(4, 1, text(4, 4)) })
	r.acts(1, 0, 0, func() { r.loads(2, 1, text(2, 2)) }) // 5 goes
	r.tallies(3, 3, 5, 2, 0)
}

// P8.4: a page that is spoilt while it is clean is answered as it was; while it is not, it is told, and the cache stays as it is.
func TestLoadOfASpoiltPage(t *testing.T) {
	for bit := 0; bit < 2048; bit += 37 {
		r := half(t, "P8.4", 2)
		r.loads(2, 1, []byte("a"))
		r.d.Flip(2, bit, 1)
		r.d.Flip(3, bit, 1)
		r.acts(0, 0, 0, func() { r.loads(2, 1, []byte("a")) })
		for i := range 3 {
			r.acts(1, 0, 0, func() { r.loadsNot(3, api.ErrCorrupt) })
			r.tallies(1, 2+i, 0, 1, 2)
		}
		r.acts(0, 0, 0, func() { r.loads(2, 1, []byte("a")) })
		r.acts(0, 0, 0, func() { r.loads(4, 3, []byte("ccc")) })
		r.d.Flip(3, bit, 1)
		r.acts(1, 0, 0, func() { r.loads(3, 2, []byte("bb")) })
		r.tallies(3, 5, 0, 2, 2)
		over(t, "P8.4", r.d, 2).loadsNot(2, api.ErrCorrupt)
	}
}

// P8.4: a spoilt page does not drive out the oldest clean one, nor is it kept in its stead.
func TestSpoiltPageDrivesNoneOut(t *testing.T) {
	r := half(t, "P8.4", 1)
	r.loads(2, 1, []byte("a"))
	r.d.Flip(3, 9, 7)
	r.loadsNot(3, api.ErrCorrupt)
	r.acts(0, 0, 0, func() { r.loads(2, 1, []byte("a")) })
	r.tallies(1, 2, 0, 1, 2)
}

// P8.4: pages that were flushed are clean: they are answered as they were staged, whatever the disk's bytes are since.
func TestFlushedPagesAreClean(t *testing.T) {
	r := half(t, "P8.4", 2)
	r.flushes(4, api.OK)
	r.d.Flip(4, 60, 3)
	r.d.Flip(5, 2047, 1)
	r.acts(0, 0, 0, func() {
		r.loads(4, 3, []byte("ccc"))
		r.loads(5, 1, nil)
	})
	r.acts(1, 0, 0, func() { r.loads(3, 2, []byte("bb")) }) // 4 goes
	r.acts(1, 0, 0, func() { r.loadsNot(4, api.ErrCorrupt) })
}

// P8.4: a spoilt page among the staged ones' numbers is no matter: it is written over.
func TestSpoiltAboveTheMark(t *testing.T) {
	r := half(t, "P8.4", 0)
	r.d.Flip(4, 8, 1)
	r.loads(4, 3, []byte("ccc"))
	r.flushes(4, api.OK)
	r.loads(4, 3, []byte("ccc"))
}

// P8.4: whichever way a page's bytes are not that page's, the file says ErrCorrupt, and so does the store.
func TestLoadOfWrongPages(t *testing.T) {
	short := packed(t, 1, 2, nil)
	short[1] = 247
	for name, raw := range map[string][]byte{
		"zeros":          make([]byte, 256),
		"another number": packed(t, 1, 3, []byte("a")),
		"too long":       short,
		"a superblock":   slot(t, api.Super{Width: 32, Generation: 1, Mark: 3, Pages: 4}),
	} {
		image := make([]byte, 4*256)
		copy(image, slot(t, api.Super{Width: 32, Generation: 2, Mark: 3, Pages: 4}))
		copy(image[256:], slot(t, api.Super{Width: 32, Generation: 1, Mark: 2, Pages: 4}))
		copy(image[512:], raw)
		r := onImage(t, "P8.4: "+name, image, 2)
		r.acts(1, 0, 0, func() { r.loadsNot(2, api.ErrCorrupt) })
		r.tallies(0, 1, 0, 0, 0)
	}
}

// P8.4: each kind and each length of a load, from memory and from the disk.
func TestLoadAllLengths(t *testing.T) {
	r := begun(t, "P8.4", 4096, 100)
	for n := range 247 {
		r.stages(1+n%3, text(n, n), 2+n)
		r.loads(2+n, 1+n%3, text(n, n))
	}
	r.flushes(0, api.OK)
	for range 2 {
		for n := range 247 {
			r.loads(2+n, 1+n%3, text(n, n))
		}
	}
	twin, e := disk.Load(r.d.Image())
	if e != api.OK {
		t.Fatal(e)
	}
	for n := range 247 {
		raw, _ := twin.Read(2 + n)
		if k, l, e := frame.Unpack(2+n, raw); k != 1+n%3 || string(l) != string(text(n, n)) || e != api.OK {
			t.Errorf("P8.12: page %d: %d, %v, %v", 2+n, k, l, e)
		}
	}
}
