package salvage_test

import (
	"bytes"
	"fmt"
	"testing"

	"ledger/api"
	"ledger/ledger"
)

// P23.6, P23.7: Whole and Cut of clean images: every version, the newest, and what there is not.
func TestCleanImages(t *testing.T) {
	t.Parallel()
	for which, h := range histories(t) {
		for number, x := range h.images {
			name := fmt.Sprintf("history %d, number %d", which, number)
			first, last := min(h.first, h.version(number)), h.version(number)
			wholes(t, "P23.6: "+name, x, first, last, api.OK)
			mends(t, "P23.5: "+name, x, x, api.OK)
			rescues(t, "P23.8: "+name, x, x, last, api.OK)
			h.travels(t, "P23.7: "+name, x, number)
		}
	}
}

// travels asks Cut for all versions of an image that ends with a number, and for such that are not there.
func (h history) travels(t *testing.T, promise string, image []byte, number int) {
	t.Helper()
	first, last := min(h.first, h.version(number)), h.version(number)
	for v := first; v <= last; v++ {
		at := v
		if h.first > 0 && number > 0 {
			at = v - h.first + 1
		}
		cuts(t, promise, image, v, h.images[at], api.OK)
	}
	cuts(t, promise, image, api.Newest, h.images[number], api.OK)
	for _, v := range []int{lowest, -3, -2, last + 1, last + 2, 1 << 30, highest} {
		cuts(t, promise, image, v, nil, api.ErrVersion)
	}
	for _, v := range []int{0, first / 2, first - 1} {
		if v >= 0 && v < first {
			cuts(t, promise, image, v, nil, api.ErrGone)
		}
	}
}

// P23.7: what is taken in has its first version at the number 1; below it all is gone, also where that version is the highest there may be.
func TestFirstVersions(t *testing.T) {
	four := made(t, 40, 4, story()...)
	for from := 1; from <= 7; from++ {
		h := shipped(t, from, four)
		x := h.newest()
		name := fmt.Sprintf("P23.7: from %d", from)
		wholes(t, name, x, from, 7, api.OK)
		cuts(t, name, x, from, h.images[1], api.OK)
		cuts(t, name, x, from-1, nil, api.ErrGone)
		cuts(t, name, x, 0, nil, api.ErrGone)
		cuts(t, name, x, 7, x, api.OK)
		cuts(t, name, x, 8, nil, api.ErrVersion)
		// Where no record is left it is the ledger that began empty.
		spoilt := turned(x, twice(2)...)
		wholes(t, name+": no record is left", spoilt, 0, 0, api.OK)
		cuts(t, name+": no record is left", spoilt, 0, h.images[0], api.OK)
		cuts(t, name+": no record is left", spoilt, from, nil, api.ErrVersion)
	}
	// The highest versions there may be: the records tell them, and nothing else does.
	h := made(t, 16, 4, nil, nil)
	x := h.newest()
	for page := 2; page <= 3; page++ {
		x = withRecord(t, x, page, func(r *api.Record) { r.First, r.Version = 1<<30-1, 1<<30+page-3 })
	}
	wholes(t, "P23.6: the highest versions", x, 1<<30-1, 1<<30, api.OK)
	cuts(t, "P23.7: the highest versions", x, 1<<30, x, api.OK)
	cuts(t, "P23.7: the highest versions", x, 1<<30+1, nil, api.ErrVersion)
	cuts(t, "P23.7: the highest versions", x, 1<<30-2, nil, api.ErrGone)
	ask(t, "the highest versions", x)
}

// P23.3, P23.7: what is not looked at: bytes behind the sectors, other superblocks over the same pages, pages behind the version's record.
func TestWhatIsNotLookedAt(t *testing.T) {
	t.Parallel()
	rnd := drawn(12)
	for _, h := range histories(t) {
		ends, s := h.ends(t), h.super(t)
		for number := range h.images {
			v, name := h.version(number), fmt.Sprintf("P23.7: number %d", number)
			if number == 0 && h.first > 0 {
				continue
			}
			image := bytes.Clone(h.newest())
			copy(image[64:256], noise(rnd, 192))
			copy(image[256+64:512], noise(rnd, 192))
			copy(image[256*s.Mark:], noise(rnd, len(image)-256*s.Mark))
			cuts(t, name+": the tails", image, v, h.images[number], api.OK)
			cuts(t, name+": another head", underHead(t, image, s.Mark, 0), v, h.images[number], api.OK)
			far := s
			far.Generation = 1<<40 - rnd.IntN(100)
			cuts(t, name+": another generation", under(image, far), v, h.images[number], api.OK)
			if number+1 < len(h.images) {
				// The pages behind the record, and the last record itself, may be spoilt too.
				copy(image[256*(ends[number]+1):], noise(rnd, len(image)-256*(ends[number]+1)))
				cuts(t, name+": the pages behind", image, v, h.images[number], api.OK)
				wholes(t, name+": the pages behind", image, min(h.first, v), v, api.OK)
			}
		}
	}
}

// under tells an image with a superblock, and the one ahead of it in the other slot.
func under(image []byte, s api.Super) []byte {
	old := s
	old.Generation, old.Mark, old.Head = s.Generation-1, 2, 0
	if s.Generation%2 == 0 {
		return supers(image, s, old)
	}
	return supers(image, old, s)
}

// P23.14, W11: over each cut the commits that came then are made once more, and leave the same images.
func TestCutsGoBackInTime(t *testing.T) {
	t.Parallel()
	for which, h := range histories(t) {
		for number := range h.images {
			if number == 0 && h.first > 0 {
				continue
			}
			name := fmt.Sprintf("P23.14: history %d, back to the number %d", which, number)
			cuts(t, name, h.newest(), h.version(number), h.images[number], api.OK)
			d, l := opened(t, h.images[number])
			for i := number; i < len(h.lists); i++ {
				if v, err := l.Commit(raw(h.lists[i]...)); err != nil || v != h.version(i+1) || !bytes.Equal(d.Image(), h.images[i+1]) {
					t.Fatalf("%s: commit %d: version %d, %v", name, i+1, v, err)
				}
			}
		}
	}
}

// P23.14: from an older cut another history goes on, as it would have gone on then.
func TestAnotherHistoryFromACut(t *testing.T) {
	h := made(t, 40, 4, story()...)
	for v := range h.images {
		d, l := opened(t, h.images[v])
		if _, err := l.Commit(raw(put(keyD, "another"), del(keyB))); err != nil {
			t.Fatal(err)
		}
		want := d.Image()
		cut := ofCut(t, h.newest(), v)
		d, l = opened(t, cut)
		if n, err := l.Commit(raw(put(keyD, "another"), del(keyB))); err != nil || n != v+1 || !bytes.Equal(d.Image(), want) {
			t.Errorf("P23.14: over the cut at %d: %d, %v", v, n, err)
		}
		if _, err := l.Root(v + 2); ledger.Code(err) != api.ErrVersion {
			t.Errorf("P23.14: over the cut at %d there is version %d: %v", v, v+2, err)
		}
	}
}

// P23.4: the greatest clean cut is found wherever it ends, however many records there are, also where several are spoilt.
func TestWhereverItEnds(t *testing.T) {
	t.Parallel()
	for _, many := range []int{1, 2, 3, 4, 5, 7, 8, 9, 31, 32, 33} {
		h := made(t, many+4, 1, make([][]api.Change, many)...)
		x := h.newest()
		for last := range many {
			image := turned(x, twice(last+2)...)
			name := fmt.Sprintf("P23.4: %d records, the number %d is spoilt", many, last+1)
			wholes(t, name, image, 0, last, api.OK)
			cuts(t, name, image, last, h.images[last], api.OK)
			cuts(t, name, image, last+1, nil, api.ErrVersion)
			rescues(t, name, image, h.images[last], last, api.OK)
			for page := last + 5; page < many+2; page += 3 {
				image = turned(image, twice(page)...)
			}
			wholes(t, name+", and others behind", image, 0, last, api.OK)
		}
	}
}
