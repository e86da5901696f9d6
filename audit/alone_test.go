package audit_test

import (
	"fmt"
	"slices"
	"testing"

	"ledger/api"
	"ledger/crc"
)

// reseal makes a page's checksum right, whatever the page holds.
func (f *forgery) reseal(page int) {
	copy(f.image[256*page:], crc.Seal(f.image[256*page:256*page+252]))
}

// spoil is one way in which a page that is looked at alone is wrong.
type spoil struct {
	name string
	turn func(f *forgery, page int)
	why  api.Errno
}

// framed are the ways that are wrong in a used page of any kind.
func framed() []spoil {
	set := func(at int, b byte) func(f *forgery, page int) {
		return func(f *forgery, page int) { f.image[256*page+at] = b; f.reseal(page) }
	}
	flip := func(at int, b byte) func(f *forgery, page int) {
		return func(f *forgery, page int) { f.image[256*page+at] ^= b }
	}
	return []spoil{
		{"zeros", func(f *forgery, page int) { clear(f.image[256*page : 256*page+256]) }, api.ErrSum},
		{"a bit of the kind", flip(0, 1), api.ErrSum},
		{"a bit of the load", flip(10, 128), api.ErrSum},
		{"a bit of the checksum", flip(255, 2), api.ErrSum},
		{"a bit of the zeros", flip(251, 64), api.ErrSum},
		{"kind 0", set(0, 0), api.ErrKind},
		{"kind 4", set(0, 4), api.ErrKind},
		{"kind 255", set(0, 255), api.ErrKind},
		{"length 247", set(1, 247), api.ErrLoad},
		{"length 255", set(1, 255), api.ErrLoad},
		{"another number", set(2, 77), api.ErrPlace},
		{"a number far above", set(5, 1), api.ErrPlace},
		{"a byte behind the load", set(251, 9), api.ErrFrame},
		{"kind 0, length 247, another number", func(f *forgery, page int) {
			copy(f.image[256*page:], []byte{0, 247, 77})
			f.image[256*page+251] = 3
			f.reseal(page)
		}, api.ErrKind},
		{"length 247, another number", func(f *forgery, page int) {
			copy(f.image[256*page+1:], []byte{247, 77})
			f.image[256*page+251] = 3
			f.reseal(page)
		}, api.ErrLoad},
		{"another number, a byte behind the load", func(f *forgery, page int) {
			f.image[256*page+2] = 77
			f.image[256*page+251] = 3
			f.reseal(page)
		}, api.ErrPlace},
	}
}

// loads are the ways in which a load is none of its kind.
func loads() []spoil {
	lay := func(kind, n int) func(f *forgery, page int) {
		return func(f *forgery, page int) { f.lay(kind, page, make([]byte, n)) }
	}
	branch := func(numbers ...int) func(f *forgery, page int) {
		return func(f *forgery, page int) {
			f.lay(2, page, make([]byte, 80))
			for i, n := range numbers {
				f.number(page, 4*i, n)
			}
		}
	}
	record := func(numbers ...int) func(f *forgery, page int) {
		return func(f *forgery, page int) {
			f.lay(3, page, make([]byte, 56))
			for i, n := range numbers {
				f.number(page, 4*i, n)
			}
		}
	}
	return []spoil{
		{"a leaf of nothing", lay(1, 0), api.ErrNode},
		{"a leaf of 31 bytes", lay(1, 31), api.ErrNode},
		{"a leaf of 161 bytes", lay(1, 161), api.ErrNode},
		{"a branch of nothing", lay(2, 0), api.ErrNode},
		{"a branch of 79 bytes", lay(2, 79), api.ErrNode},
		{"a branch of 81 bytes", lay(2, 81), api.ErrNode},
		{"a branch of zeros", lay(2, 80), api.ErrNode},
		{"a branch with one key", branch(2, 0, 1, 0), api.ErrNode},
		{"a branch with one page twice", branch(2, 2, 1, 1), api.ErrNode},
		{"a branch that leads to a slot", branch(1, 2, 1, 1), api.ErrNode},
		{"a branch that leads to page 4096", branch(4096, 2, 1, 1), api.ErrNode},
		{"a branch with a child of no keys", branch(2, 3, 0, 2), api.ErrNode},
		{"a record of nothing", lay(3, 0), api.ErrRecord},
		{"a record of 55 bytes", lay(3, 55), api.ErrRecord},
		{"a record of 57 bytes", lay(3, 57), api.ErrRecord},
		{"a record of version 0", lay(3, 56), api.ErrRecord},
		{"a record of a version below First", record(4, 5), api.ErrRecord},
		{"a record of a version too high", record(1<<30+1, 0, 2, 2), api.ErrRecord},
		{"a record with keys and no root", record(1, 0, 0, 0, 0, 1), api.ErrRecord},
		{"a record with a Prev that may not be", record(1, 0, 2), api.ErrRecord},
		{"a record without Prev", record(2, 0, 0), api.ErrRecord},
		{"a record with a Skip that may not be", record(3, 0, 5, 4), api.ErrRecord},
	}
}

// P17.2, P17.3: each way to be wrong, in each page of a history with all kinds of pages: it is what is found, and that page counts no more, all others do.
func TestEachPageAlone(t *testing.T) {
	image := laid(t, 40, 4, 9, story()...)
	kinds := map[byte]int{1: 6, 2: 7, 3: 7}
	for page := 2; page < 22; page++ {
		for _, s := range slices.Concat(framed(), loads()) {
			f := forged(t, image)
			s.turn(f, page)
			want := api.Report{Width: 4, Pages: 40, Mark: 22, Head: 21, First: 9, Last: 15, Leaves: kinds[1], Branches: kinds[2], Records: kinds[3], Findings: []api.Finding{find(page, s.why)}}
			switch image[256*page] {
			case 1:
				want.Leaves--
			case 2:
				want.Branches--
			case 3:
				want.Records--
			}
			if page == 21 {
				want.First, want.Last = 0, 0
			}
			checks(t, fmt.Sprintf("P17.3: page %d: %s", page, s.name), f.image, want)
		}
	}
}

// P17.9 to P17.11: of an image with a page that is wrong alone nothing else is told.
func TestPagesAloneAreRefused(t *testing.T) {
	image := laid(t, 40, 4, 9, story()...)
	for i, s := range slices.Concat(framed(), loads()) {
		f := forged(t, image)
		s.turn(f, 2+i%20)
		finds(t, "P17.9: "+s.name, f.image, find(2+i%20, s.why))
	}
}

// P17.3: every byte behind the superblock's sector in both slots.
func TestSlotTails(t *testing.T) {
	image := laid(t, 40, 4, 0, story()...)
	for slot := range 2 {
		for at := 64; at < 256; at++ {
			f := forged(t, image)
			f.image[256*slot+at] = byte(at)
			want := []api.Finding{find(slot, api.ErrFrame)}
			if byte(at) == 0 {
				want = nil
			}
			if r := asReport(t, f.image); !slices.Equal(r.Findings, want) {
				t.Errorf("P17.3: byte %d of slot %d: %v", at, slot, r.Findings)
			}
		}
	}
	f := forged(t, image)
	f.image[64], f.image[256+255] = 1, 1
	finds(t, "P17.3: both slots", f.image, find(0, api.ErrFrame), find(1, api.ErrFrame))
	f.image[100], f.image[101] = 1, 1
	finds(t, "P17.3: once a slot", f.image, find(0, api.ErrFrame), find(1, api.ErrFrame))
}

// P17.3: several pages at once, in the order of the pages, one finding a page; the slots come first.
func TestSeveralPagesAlone(t *testing.T) {
	f := forged(t, laid(t, 40, 4, 0, story()...))
	f.image[256+64] = 1
	f.lay(3, 21, nil)
	f.lay(1, 2, nil)
	f.lay(2, 9, nil)
	f.image[256*12+3] ^= 255
	f.image[256*12+200] ^= 255
	f.lay(1, 30, nil)
	want := api.Report{Width: 4, Pages: 40, Mark: 22, Head: 21, Leaves: 5, Branches: 6, Records: 5, Findings: []api.Finding{
		find(1, api.ErrFrame), find(2, api.ErrNode), find(9, api.ErrNode), find(12, api.ErrSum), find(21, api.ErrRecord),
	}}
	checks(t, "P17.3", f.image, want)
	all := want.Findings
	for page := 2; page < 22; page++ {
		clear(f.image[256*page : 256*page+256])
	}
	want.Leaves, want.Branches, want.Records, want.Findings = 0, 0, 0, all[:1]
	for page := 2; page < 22; page++ {
		want.Findings = append(slices.Clone(want.Findings), find(page, api.ErrSum))
	}
	checks(t, "P17.3: all", f.image, want)
}

// P17.4: what P17.3 finds keeps P17.4 from looking: a record that does not follow is told only where no page is wrong alone.
func TestAloneAheadOfTheWhole(t *testing.T) {
	f := forged(t, laid(t, 40, 4, 0, story()...))
	f.record(7, func(r *api.Record) { r.Sum[0] ^= 1 })
	finds(t, "P17.4", f.image, find(7, api.ErrDigest))
	f.image[64] = 1
	finds(t, "P17.4: a slot", f.image, find(0, api.ErrFrame))
	f.image[64] = 0
	f.image[256*20+255] ^= 1
	finds(t, "P17.4: a page behind", f.image, find(20, api.ErrSum))
}

// P17.2: First and Last are the head's, if that stands alone as a record: they are told also where the head is not the last record, or is none.
func TestFirstAndLast(t *testing.T) {
	t.Parallel()
	image := laid(t, 40, 4, 9, story()...)
	for head, versions := range map[int][2]int{0: {}, 2: {}, 4: {}, 7: {9, 9}, 11: {9, 10}, 13: {}, 14: {9, 12}, 19: {9, 14}, 20: {}} {
		f := forged(t, image)
		f.super(func(s *api.Super) { s.Head = head })
		checks(t, fmt.Sprintf("P17.2: head %d", head), f.image, api.Report{Width: 4, Pages: 40, Mark: 22, Head: head, First: versions[0], Last: versions[1], Leaves: 6, Branches: 7, Records: 7, Findings: []api.Finding{find(21, api.ErrChain)}})
		refuses(t, "P17.8", f.image, api.ErrCorrupt)
	}
}

// P17.3: pages from the mark on say nothing, whatever they hold.
func TestPagesBehindTheMark(t *testing.T) {
	image := laid(t, 40, 4, 0, story()...)
	was := asReport(t, image)
	for i, s := range slices.Concat(framed(), loads()) {
		f := forged(t, image)
		for page := 22; page < 40; page++ {
			f.layLeaf(page, keyA, "x")
			s.turn(f, page)
		}
		if i%2 == 0 {
			copy(f.image[256*22:], image[256*2:256*20])
		}
		checks(t, "P17.3: behind the mark: "+s.name, f.image, was)
	}
	pages(t, "P17.9", image, -1, api.OK, 20, 21)
}
