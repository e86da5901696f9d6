package audit_test

import (
	"fmt"
	"slices"
	"testing"

	"ledger/api"
	"ledger/audit"
)

// burst turns bits of a page, from one on, by a pattern whose lowest bit is that one; those behind the page's end are left out. It tells whether one lies in the first sector.
func burst(image []byte, page, at int, pattern uint32) (first bool) {
	for i := range 32 {
		if pattern>>i&1 == 1 && at+i < 2048 {
			image[256*page+(at+i)/8] ^= 1 << ((at + i) % 8)
			first = first || at+i < 512
		}
	}
	return first
}

var patterns = []uint32{1, 3, 0x80000001, 0xFFFFFFFF, 0xEDB88321, 0x00010101}

// P17.14, W8: a burst at every place of every used page: that page, ErrSum, and nothing else.
func TestBurstsInUsedPages(t *testing.T) {
	clean := laid(t, 40, 4, 9, story()...)
	for page := 2; page < 22; page++ {
		t.Run(fmt.Sprint(page), func(t *testing.T) {
			t.Parallel()
			image := slices.Clone(clean)
			want := []api.Finding{find(page, api.ErrSum)}
			for at := range 2048 {
				pattern := patterns[(page+at)%len(patterns)]
				burst(image, page, at, pattern)
				if r, e := audit.Check(image); e != api.OK || !slices.Equal(r.Findings, want) || r.Leaves+r.Branches+r.Records != 19 {
					t.Errorf("P17.14: bit %d of page %d by %x: %+v, %v", at, page, pattern, r, e)
				}
				if at%100 == 0 {
					refuses(t, "P17.14", image, api.ErrCorrupt)
				}
				burst(image, page, at, pattern)
			}
		})
	}
}

// P17.14: a burst at every place of both slots: with a bit in the first sector ErrCorrupt, else ErrFrame at that page.
func TestBurstsInSlots(t *testing.T) {
	t.Parallel()
	for _, lists := range [][][]api.Change{nil, story()[:1], story()} {
		image := laid(t, 40, 4, 0, lists...)
		for page := range 2 {
			for at := range 2048 {
				for i, pattern := range patterns {
					if (at+page)%3 != i%3 && at/8 != 60 {
						continue
					}
					first := burst(image, page, at, pattern)
					r, e := audit.Check(image)
					switch {
					case first && (e != api.ErrCorrupt || !sameReport(r, api.Report{})):
						t.Errorf("P17.14: bit %d of slot %d by %x: %v, %v", at, page, pattern, r, e)
					case !first && (e != api.OK || !slices.Equal(r.Findings, []api.Finding{find(page, api.ErrFrame)}) || r.Last != len(lists)):
						t.Errorf("P17.14: bit %d of slot %d by %x: %v, %v", at, page, pattern, r, e)
					}
					burst(image, page, at, pattern)
				}
			}
		}
	}
}

// P17.14: a burst in a page that is not used: the image is as clean as it was.
func TestBurstsInUnusedPages(t *testing.T) {
	t.Parallel()
	image := laid(t, 40, 4, 0, story()...)
	was := asReport(t, image)
	for page := 22; page < 40; page++ {
		for i := range 8 {
			burst(image, page, 37*page+201*i, patterns[i%len(patterns)])
			checks(t, fmt.Sprintf("P17.14: page %d", page), image, was)
		}
	}
	pages(t, "P17.14", image, -1, api.OK, 20, 21)
}

// W8: bursts in several pages: each is found.
func TestBurstsInManyPages(t *testing.T) {
	image := laid(t, 40, 4, 0, story()...)
	var want []api.Finding
	for page := 2; page < 22; page++ {
		burst(image, page, 97*page, patterns[page%len(patterns)])
		want = append(want, find(page, api.ErrSum))
		finds(t, "W8", image, want...)
	}
}
