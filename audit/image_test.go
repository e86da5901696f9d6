package audit_test

import (
	"fmt"
	"slices"
	"testing"

	"ledger/api"
	"ledger/frame"
)

// P17.1: lengths that no image has, and blank images, whatever the bytes are.
func TestSizes(t *testing.T) {
	for n, why := range map[int]api.Errno{
		0: api.ErrPages, 1: api.ErrSize, 64: api.ErrSize, 255: api.ErrSize, 256: api.ErrPages, 257: api.ErrSize, 511: api.ErrSize, 512: api.ErrPages, 513: api.ErrSize, 700: api.ErrSize,
		3*256 - 1: api.ErrSize, 3 * 256: api.ErrBlank, 3*256 + 1: api.ErrSize, 16 * 256: api.ErrBlank, 4095 * 256: api.ErrBlank, 4096*256 - 1: api.ErrSize, 4096 * 256: api.ErrBlank, 4096*256 + 1: api.ErrSize,
		4097 * 256: api.ErrPages, 4097*256 + 128: api.ErrSize, 10000 * 256: api.ErrPages,
	} {
		refusesAll(t, fmt.Sprintf("P17.1: %d bytes", n), make([]byte, n), why)
	}
}

// P17.1: the size comes ahead of what the slots hold.
func TestSizesOfLedgers(t *testing.T) {
	image := committed(t, 16, 4, story()[0])
	refusesAll(t, "P17.1: a byte less", image[:len(image)-1], api.ErrSize)
	refusesAll(t, "P17.1: a byte more", append(slices.Clone(image), 0), api.ErrSize)
	refusesAll(t, "P17.1: two pages", image[:512], api.ErrPages)
	refusesAll(t, "P17.1: 4097 pages", append(slices.Clone(image), make([]byte, 256*(4097-16))...), api.ErrPages)
	image[3] ^= 1
	refusesAll(t, "P17.1: a byte less of a spoilt one", image[:len(image)-1], api.ErrSize)
	refusesAll(t, "P17.1: two pages of a spoilt one", image[:512], api.ErrPages)
}

// P17.1: the smallest and the greatest image that there may be.
func TestSmallestAndGreatest(t *testing.T) {
	checks(t, "P17.1", committed(t, 3, 32), api.Report{Width: 32, Pages: 3, Mark: 2})
	checks(t, "P17.1", committed(t, 3, 1, nil), api.Report{Width: 1, Pages: 3, Mark: 3, Head: 2, Last: 1, Records: 1})
	checks(t, "P17.1", committed(t, 4096, 1, nil), api.Report{Width: 1, Pages: 4096, Mark: 3, Head: 2, Last: 1, Records: 1})
}

// P17.1: the superblock tells another number of pages than there are.
func TestOtherNumberOfPages(t *testing.T) {
	image := committed(t, 16, 4, story()[0])
	refusesAll(t, "P17.1: a page less", image[:15*256], api.ErrCorrupt)
	refusesAll(t, "P17.1: a page more", append(slices.Clone(image), make([]byte, 256)...), api.ErrCorrupt)
	for _, n := range []int{8, 15, 17, 4096} {
		f := forged(t, image)
		f.super(func(s *api.Super) { s.Pages = n })
		refusesAll(t, fmt.Sprintf("P17.1: Pages %d", n), f.image, api.ErrCorrupt)
	}
	// of the slot that does not hold too: the two do not follow one another
	f := forged(t, image)
	f.slot(api.Super{Width: 4, Generation: 1, Mark: 2, Pages: 15})
	refusesAll(t, "P17.1: of one slot", f.image, api.ErrCorrupt)
}

// slot lays a superblock into its slot.
func (f *forgery) slot(s api.Super) {
	f.Helper()
	b, e := frame.PackSuper(s)
	if e != api.OK {
		f.Fatal(e)
	}
	copy(f.image[256*(s.Generation%2):], b)
}

// P17.1: slots that frame.Choose refuses, each with its error, ahead of what is wrong with any page.
func TestSpoiltSlots(t *testing.T) {
	image := committed(t, 16, 4, story()[0])
	image[4*256+9] ^= 1
	image[100] = 1
	for name, c := range map[string]struct {
		turn func(f *forgery)
		why  api.Errno
	}{
		"slot 0 is spoilt":            {func(f *forgery) { f.image[9] ^= 4 }, api.ErrCorrupt},
		"slot 1 is spoilt":            {func(f *forgery) { f.image[256+63] ^= 4 }, api.ErrCorrupt},
		"both are spoilt":             {func(f *forgery) { f.image[0], f.image[256] = 0, 0 }, api.ErrCorrupt},
		"slot 0 is empty":             {func(f *forgery) { clear(f.image[:64]) }, api.ErrCorrupt},
		"slot 1 is empty":             {func(f *forgery) { clear(f.image[256:320]) }, api.ErrCorrupt},
		"both are empty":              {func(f *forgery) { clear(f.image[:64]); clear(f.image[256:320]) }, api.ErrBlank},
		"generation 0 alone":          {func(f *forgery) { f.slot(api.Super{Width: 4, Mark: 2, Pages: 16}); clear(f.image[256:320]) }, api.ErrBlank},
		"generation 0, another size":  {func(f *forgery) { f.slot(api.Super{Width: 4, Mark: 2, Pages: 9}); clear(f.image[256:320]) }, api.ErrBlank},
		"generation 1 alone":          {func(f *forgery) { clear(f.image[:64]) }, api.ErrCorrupt},
		"the two are swapped":         {func(f *forgery) { f.swap() }, api.ErrCorrupt},
		"generations are three apart": {func(f *forgery) { f.slot(api.Super{Width: 4, Generation: 5, Mark: 9, Pages: 16}) }, api.ErrCorrupt},
		"another width":               {func(f *forgery) { f.slot(api.Super{Width: 5, Generation: 3, Mark: 8, Head: 7, Pages: 16}) }, api.ErrCorrupt},
		"a mark that falls":           {func(f *forgery) { f.slot(api.Super{Width: 4, Generation: 3, Mark: 7, Pages: 16}) }, api.ErrCorrupt},
	} {
		f := forged(t, image)
		c.turn(f)
		refusesAll(t, "P17.1: "+name, f.image, c.why)
		allAsRead(t, "P17.1: "+name, f.image)
	}
}

// swap lays each slot's bytes into the other one.
func (f *forgery) swap() {
	a := slices.Clone(f.image[:256])
	copy(f.image, f.image[256:512])
	copy(f.image[256:], a)
}

// P17.1, P17.2: which generation it is says nothing more; the slot that does not hold says nothing but that it stands.
func TestGenerations(t *testing.T) {
	image := laid(t, 40, 4, 0, story()...)
	want := api.Report{Width: 4, Pages: 40, Mark: 22, Head: 21, Last: 7, Leaves: 6, Branches: 7, Records: 7}
	checks(t, "P17.2", image, want)
	for _, g := range []int{1, 2, 3, 1000, 1 << 33, 1<<40 - 1, 1 << 40} {
		f := forged(t, image)
		f.super(func(s *api.Super) { s.Generation = g })
		checks(t, fmt.Sprintf("P17.2: generation %d", g), f.image, want)
	}
}
