package salvage_test

import (
	"fmt"
	"testing"

	"ledger/api"
)

// pair tells the superblocks that Create lays onto a disk of so many pages.
func pair(pages int) (api.Super, api.Super) {
	even := api.Super{Width: 4, Mark: 2, Pages: pages}
	odd := even
	odd.Generation = 1
	return even, odd
}

// contents fills an image of a length in several ways: zeros, a ledger's superblocks for so many pages, spoilt ones, any bytes.
func contents(bytes, pages int) map[string][]byte {
	even, odd := pair(pages)
	whole := supers(make([]byte, max(bytes, 512)), even, odd)
	return map[string][]byte{
		"zeros":         make([]byte, bytes),
		"a ledger":      whole[:bytes],
		"spoilt slots":  turned(whole, 3, 99, pageBits+3, pageBits+99)[:bytes],
		"spoilt once":   turned(whole, 3, pageBits+99)[:bytes],
		"drawn":         noise(drawn(uint64(bytes)), bytes),
		"the older one": laid(whole, 1, make([]byte, 256))[:bytes],
	}
}

// P23.5 to P23.8: a length that is no multiple of 256, then too few or too many pages, each ahead of all other refusals and of every answer.
func TestSizes(t *testing.T) {
	for _, n := range []int{1, 64, 255, 257, 511, 513, 700, 767, 769, 16*256 - 1, 16*256 + 1, 4096*256 - 1, 4096*256 + 1, 4097*256 - 1, 4097*256 + 1, 5000*256 + 128} {
		for name, image := range contents(n, max(n/256, 3)) {
			refusesAll(t, fmt.Sprintf("P23.5: %d bytes, %s", n, name), image, api.ErrSize)
		}
	}
	for _, pages := range []int{0, 1, 2, 4097, 5000} {
		for name, image := range contents(256*pages, min(max(pages, 3), 4096)) {
			refusesAll(t, fmt.Sprintf("P23.5: %d pages, %s", pages, name), image, api.ErrPages)
		}
	}
	refusesAll(t, "P23.5: nil", nil, api.ErrPages)
	refusesAll(t, "P23.5: no bytes", []byte{}, api.ErrPages)
}

// P23.5 to P23.8: the fewest and the most pages there may be.
func TestFewestAndMostPages(t *testing.T) {
	for _, pages := range []int{3, 4, 4095, 4096} {
		name := fmt.Sprintf("%d pages", pages)
		h := made(t, pages, 4, nil)
		x := h.newest()
		mends(t, name, turned(x, 17, pageBits+2047, 2*pageBits+2040), x, api.OK, 0, 1, 2)
		wholes(t, name, x, 0, 1, api.OK)
		cuts(t, name, x, 1, x, api.OK)
		cuts(t, name, x, 0, h.images[0], api.OK)
		rescues(t, name, turned(x, twice(0)...), h.images[0], 0, api.OK)
		rescues(t, name, turned(x, twice(1)...), x, 1, api.OK)
		refusesAll(t, name+": zeros", make([]byte, 256*pages), api.ErrBlank)
	}
}

// P23.1 to P23.8: a disk that is used to its last page, and so the highest page that there may be.
func TestFullDisk(t *testing.T) {
	t.Parallel()
	var lists [][]api.Change
	for range 4094 {
		lists = append(lists, nil)
	}
	d, l := created(t, 4096, 1)
	var before []byte
	for i := range lists {
		if i == len(lists)-1 {
			before = d.Image()
		}
		if _, err := l.Commit(raw()); err != nil {
			t.Fatal(err)
		}
	}
	x := d.Image()
	mends(t, "full", turned(x, 4095*pageBits+9, 4094*pageBits+2047, 2*pageBits), x, api.OK, 2, 4094, 4095)
	wholes(t, "full", x, 0, 4094, api.OK)
	cuts(t, "full", x, 4094, x, api.OK)
	cuts(t, "full", x, 4093, before, api.OK)
	cuts(t, "full", x, 4095, nil, api.ErrVersion)
	rescues(t, "full", turned(x, append(twice(4095), 3)...), before, 4093, api.OK)
}

// P23.5 to P23.8: nothing was ever laid down to the end.
func TestBlank(t *testing.T) {
	even, _ := pair(16)
	zeros := make([]byte, 16*256)
	begun := laid(zeros, 0, block(even))
	tail := noise(drawn(1), 192)
	for name, image := range map[string][]byte{
		"zeros":                               zeros,
		"a first superblock alone":            begun,
		"of another number of pages":          laid(zeros, 0, block(api.Super{Width: 4, Mark: 2, Pages: 9})),
		"with a mark and a head":              laid(zeros, 0, block(api.Super{Width: 4, Mark: 9, Head: 8, Pages: 16})),
		"bytes behind the sectors":            turned(begun, 600, 2047, pageBits+512, pageBits+2047),
		"pages full of anything":              laid(zeros, 2, noise(drawn(2), 9*256)),
		"a first superblock, and such pages":  laid(begun, 2, noise(drawn(2), 14*256)),
		"bytes behind empty sectors":          append(append(make([]byte, 64), tail...), append(append(make([]byte, 64), tail...), zeros[512:]...)...),
		"the pages of a ledger without slots": laid(made(t, 16, 4, story()[0]).newest(), 0, zeros[:512]),
	} {
		refusesAll(t, "P23.5: "+name, image, api.ErrBlank)
		ask(t, name, image)
	}
	// One turned bit heals: but Whole and Cut mend nothing.
	for bit := range sectorBits {
		image := turned(begun, bit)
		mends(t, "P23.5: a first superblock, one bit turned", image, nil, api.ErrBlank)
		refusesCuts(t, "P23.6: a first superblock, one bit turned", image, api.ErrCorrupt)
		rescues(t, "P23.8: a first superblock, one bit turned", image, nil, 0, api.ErrBlank)
	}
	// A slot is empty just if all its first sector is: such a bit no superblock is made of.
	for _, bit := range []int{0, 7, 511, pageBits, pageBits + 511} {
		refusesAll(t, "P23.5: a bit in zeros", turned(zeros, bit), api.ErrCorrupt)
	}
	image := turned(begun, pageBits+100)
	mends(t, "P23.5: a bit in the empty slot", image, nil, api.ErrCorrupt)
	rescues(t, "P23.8: a bit in the empty slot", image, made(t, 16, 4).images[0], 0, api.OK)
}

// P23.5 to P23.8: superblocks that are right, but state another number of pages than there are.
func TestOtherNumberOfPages(t *testing.T) {
	h := made(t, 40, 4, story()...)
	x := h.newest()
	for name, image := range map[string][]byte{
		"a page more":     append(laid(x, 0, nil), make([]byte, 256)...),
		"a page less":     x[:39*256],
		"the used ones":   x[:22*256],
		"too few by one":  x[:21*256],
		"three":           x[:3*256],
		"the most":        laid(make([]byte, 4096*256), 0, x),
		"one of one more": supers(x, api.Super{Width: 4, Generation: 8, Mark: 22, Head: 21, Pages: 41}, api.Super{Width: 4, Generation: 7, Mark: 20, Head: 19, Pages: 41}),
		"no record":       supers(x, api.Super{Width: 4, Mark: 2, Pages: 41}, api.Super{Width: 4, Generation: 1, Mark: 2, Pages: 41}),
	} {
		refusesAll(t, "P23.5: "+name, image, api.ErrCorrupt)
		ask(t, name, turned(image, 70))
		refusesAll(t, "P23.8: one slot spoilt, "+name, turned(image, twice(0)...), api.ErrCorrupt)
	}
}

// P23.8: where the slots do not fit one another, the one that states the image's pages is taken, the older one too.
func TestOneOfAnotherNumberOfPages(t *testing.T) {
	h := made(t, 40, 4, story()...)
	s := h.super(t)
	other := block(api.Super{Width: 4, Generation: 9, Mark: 22, Head: 21, Pages: 41})
	image := laid(h.newest(), 1, other)
	mends(t, "P23.5", image, nil, api.ErrCorrupt)
	refusesCuts(t, "P23.6", image, api.ErrCorrupt)
	rescues(t, "P23.8", image, h.newest(), 7, api.OK)
	s.Pages = 39
	image = laid(h.newest(), 0, block(s))
	rescues(t, "P23.8", image, h.images[6], 6, api.OK)
	ask(t, "P23.8", image)
}
