package audit_test

import (
	"slices"
	"testing"

	"ledger/api"
	"ledger/audit"
)

// between tells the numbers from a to b.
func between(a, b int) (all []int) {
	for ; a <= b; a++ {
		all = append(all, a)
	}
	return all
}

// usedPages are the pages that the story's versions use, by their numbers.
func usedPages() [][]int {
	return [][]int{nil, {2, 3, 4, 5, 6, 7}, {3, 5, 8, 9, 10, 11}, {3, 5, 8, 9, 10, 12}, {5, 8, 13, 14}, {5, 8, 15, 16, 17, 18}, {19}, {20, 21}}
}

// P17.9: the pages of each version, of ledgers that began empty and of such that did not, and what is refused beside them.
func TestPages(t *testing.T) {
	image := laid(t, 40, 4, 0, story()...)
	for v, want := range usedPages() {
		pages(t, "P17.9", image, v, api.OK, want...)
	}
	pages(t, "P17.9", image, api.Newest, api.OK, 20, 21)
	for _, v := range []int{lowest, -3, -2, 8, 9, 22, 1 << 30, highest} {
		pages(t, "P17.9", image, v, api.ErrVersion)
	}
	for _, first := range []int{1, 9, 1<<30 - 6} {
		image := laid(t, 40, 4, first, story()...)
		for number, want := range usedPages()[1:] {
			pages(t, "P17.9: First", image, first+number, api.OK, want...)
		}
		pages(t, "P17.9: First", image, api.Newest, api.OK, 20, 21)
		for _, v := range []int{lowest, -2, first + 7, highest} {
			pages(t, "P17.9: First", image, v, api.ErrVersion)
		}
		for _, v := range []int{0, first / 2, first - 1} {
			pages(t, "P17.9: First", image, v, api.ErrGone)
			garbage(t, "P17.11: First", image, v, api.ErrGone)
		}
	}
}

// P17.10: the owner of each page, and what is refused beside them.
func TestOwner(t *testing.T) {
	for _, first := range []int{0, 1, 9} {
		image := laid(t, 40, 4, first, story()...)
		page := 2
		for number, end := range []int{7, 11, 12, 14, 18, 19, 21} {
			for ; page <= end; page++ {
				owner(t, "P17.10", image, page, max(first, 1)+number, api.OK)
			}
		}
		for _, page := range []int{lowest, -2, -1, 0, 1, 22, 23, 39, 40, 41, 4096, highest} {
			owner(t, "P17.10", image, page, 0, api.ErrPage)
		}
	}
}

// P17.11, P17.16: the garbage below each version, and what is refused beside them.
func TestGarbage(t *testing.T) {
	image := laid(t, 40, 4, 0, story()...)
	for v, want := range [][]int{
		nil, nil, {2, 4, 6, 7}, {2, 4, 6, 7, 11}, {2, 3, 4, 6, 7, 9, 10, 11, 12}, {2, 3, 4, 6, 7, 9, 10, 11, 12, 13, 14}, between(2, 18), between(2, 19),
	} {
		garbage(t, "P17.11", image, v, api.OK, want...)
		garbage(t, "P17.11: First", laid(t, 40, 4, 9, story()...), 8+max(v, 1), api.OK, want...)
	}
	garbage(t, "P17.11", image, api.Newest, api.OK, between(2, 19)...)
	for _, v := range []int{lowest, -3, -2, 8, 9, 22, 1 << 30, highest} {
		garbage(t, "P17.11", image, v, api.ErrVersion)
	}
}

// P17.9 to P17.11: of a ledger without a record there is version 0, which uses nothing.
func TestNoRecord(t *testing.T) {
	image := committed(t, 16, 4)
	for _, v := range []int{-1, 0} {
		pages(t, "P17.9", image, v, api.OK)
		garbage(t, "P17.11", image, v, api.OK)
	}
	for _, v := range []int{lowest, -2, 1, 2, highest} {
		pages(t, "P17.9", image, v, api.ErrVersion)
		garbage(t, "P17.11", image, v, api.ErrVersion)
	}
	for _, page := range []int{-1, 0, 1, 2, 15, 16} {
		owner(t, "P17.10", image, page, 0, api.ErrPage)
	}
}

// P17.9 to P17.11: that an image is not clean is told ahead of a version or a page that there is not.
func TestCorruptAheadOfTheRest(t *testing.T) {
	f := forged(t, laid(t, 40, 4, 9, story()...))
	f.record(21, func(r *api.Record) { r.Sum[0] ^= 1 })
	refuses(t, "P17.9: the whole", f.image, api.ErrCorrupt)
	f = forged(t, laid(t, 40, 4, 9, story()...))
	f.image[256*5+8] ^= 1
	refuses(t, "P17.9: a page alone", f.image, api.ErrCorrupt)
	f = forged(t, laid(t, 40, 4, 9, story()...))
	f.image[256+200] ^= 1
	refuses(t, "P17.9: a slot", f.image, api.ErrCorrupt)
	f = forged(t, laid(t, 40, 4, 9, story()...))
	f.super(func(s *api.Super) { s.Head = 7 })
	refuses(t, "P17.9: the head", f.image, api.ErrCorrupt)
}

// owned asks P17.16: every used page has its owner, which uses it, and no earlier version does; below the first version nothing is garbage.
func owned(t *testing.T, promise string, image []byte) {
	t.Helper()
	r := asReport(t, image)
	garbage(t, promise+": P17.16", image, r.First, api.OK)
	first := map[int]int{}
	for v := r.First; v <= r.Last; v++ {
		used, e := audit.Pages(image, v)
		if e != api.OK || !slices.IsSorted(used) {
			t.Errorf("%s: P17.16: Pages(%d) = %v, %v", promise, v, used, e)
		}
		for _, page := range used {
			if _, has := first[page]; !has {
				first[page] = v
			}
		}
	}
	for page := 2; page < r.Mark; page++ {
		v, has := first[page]
		if !has {
			t.Errorf("%s: P17.16: nobody uses page %d", promise, page)
		}
		owner(t, promise+": P17.16", image, page, v, api.OK)
	}
}

// P17.9 to P17.11: all of it against the reading, for histories in which pages come, move and go.
func TestAsksAsRead(t *testing.T) {
	t.Parallel()
	for _, first := range []int{0, 5} {
		for _, width := range []int{1, 4, 32} {
			image := laid(t, 64, width, first, append(story(), nil, list(put(keyA, ""), put(keyB, text(1, 128))), list(put(keyC, "x"), del(keyB)), list(put(keyD, "")))...)
			if !allAsRead(t, "P17.9", image) {
				t.Error("P17.13: it is not clean")
			}
			owned(t, "P17.9", image)
		}
	}
}
