package store_test

import (
	"bytes"
	"testing"

	"ledger/api"
)

// P8.7: which heads there may be.
func TestFlushHeads(t *testing.T) {
	r := half(t, "P8.7", 1)
	r.untouched(func() {
		for _, head := range []int{lowest, -2, -1, 1, 6, 7, 8, 4096, 1<<32 + 2, highest} {
			r.flushes(head, api.ErrPage)
		}
	})
	for _, head := range []int{0, 2, 3, 4, 5} {
		r := half(t, "P8.7", 1)
		r.flushes(head, api.OK)
		r.tells(r.super(3, 6, head), 0)
		over(t, "P8.7", r.d, 0).tells(r.super(3, 6, head), 0)
	}
	r = begun(t, "P8.7: no page", 4, 1)
	r.untouched(func() {
		r.flushes(1, api.ErrPage)
		r.flushes(2, api.ErrPage)
	})
	r.flushes(0, api.OK)
	r.tells(r.super(2, 2, 0), 0)
}

// P8.7: a Flush of n staged pages writes n + 1 pages, syncs twice and reads none.
func TestFlushActs(t *testing.T) {
	for _, room := range []int{0, 1, 100} {
		r := begun(t, "P8.7", 60, room)
		mark := 2
		for i, n := range []int{0, 1, 2, 0, 5, 20, 0, 0, 7} {
			for j := range n {
				r.stages(3, text(j, j), mark+j)
			}
			mark += n
			r.acts(0, n+1, 2, func() { r.flushes(lastOf(mark), api.OK) })
			r.tells(r.super(2+i, mark, lastOf(mark)), 0)
			if r.d.Counts().Open != 0 {
				t.Errorf("P8.7: %+v", r.d.Counts())
			}
		}
	}
}

// P8.7: nothing is staged: the generation rises, the head is the one that is given, the cache stays as it is.
func TestFlushOfNothing(t *testing.T) {
	r := half(t, "P8.7", 1)
	r.rewinds(4, api.OK)
	r.loads(3, 2, []byte("bb"))
	for i, head := range []int{2, 0, 3, 0} {
		r.acts(0, 1, 2, func() { r.flushes(head, api.OK) })
		r.tells(r.super(3+i, 4, head), 0)
		r.tallies(i, 1, 0, 1, 0)
		r.acts(0, 0, 0, func() { r.loads(3, 2, []byte("bb")) })
		r.untouched(func() { r.flushes(4, api.ErrPage) })
	}
}

// P8.7: what was staged is clean: the last one is the newest, the oldest went.
func TestFlushSettles(t *testing.T) {
	for room := range 8 {
		r := half(t, "P8.7", room)
		r.loads(2, 1, []byte("a"))
		r.loads(3, 2, []byte("bb"))
		r.loads(2, 1, []byte("a"))
		r.loads(4, 3, []byte("ccc"))
		was := r.s.Tally()
		r.flushes(5, api.OK)
		// From the newest to the oldest: 5, 4, then 2 and 3 if they were clean.
		clean := min(room, 4)
		r.tallies(was.Hits, was.Misses, was.Gone+was.Clean+2-clean, clean, 0)
		pages := []content{{1, []byte("a")}, {2, []byte("bb")}, {3, []byte("ccc")}, {1, nil}}
		for i, page := range []int{5, 4, 2, 3} {
			misses := 0
			if i >= clean {
				misses = 1
			}
			r.acts(misses, 0, 0, func() { r.loads(page, pages[page-2].kind, pages[page-2].load) })
		}
	}
}

// nearTheEnd makes a store whose superblock has a generation near the highest: page 2 is on the disk.
func nearTheEnd(t *testing.T, generation int) *rig {
	t.Helper()
	image := make([]byte, 6*256)
	for g := generation - 1; g <= generation; g++ {
		copy(image[256*(g%2):], slot(t, api.Super{Width: 32, Generation: g, Mark: 3, Head: 2, Pages: 6}))
	}
	copy(image[512:], packed(t, 3, 2, []byte("z")))
	return onImage(t, "P8.7", image, 2)
}

// P8.7: at the highest generation nothing is written, staged or not; the head's error goes ahead of that.
func TestFlushAtTheHighestGeneration(t *testing.T) {
	r := nearTheEnd(t, api.MaxGeneration)
	for staged := range 3 {
		r.tells(r.super(api.MaxGeneration, 3, 2), staged)
		r.untouched(func() {
			for _, head := range []int{0, 2, r.s.Next() - 1} {
				r.flushes(head, api.ErrFull)
			}
			for _, head := range []int{-1, 1, r.s.Next()} {
				r.flushes(head, api.ErrPage)
			}
		})
		r.loads(2, 3, []byte("z"))
		r.stages(1, text(staged, 5), 3+staged)
		r.loads(3+staged, 1, text(staged, 5))
	}
	r.cut()
	r.flushes(0, api.ErrDown)
	r.flushes(1, api.ErrDown)
	r.d.Crash(nil)
	r.flushes(0, api.ErrStale)
	r.flushes(1, api.ErrStale)
}

// P8.7: the one below the highest is flushed, and is then the highest.
func TestFlushBelowTheHighestGeneration(t *testing.T) {
	r := nearTheEnd(t, api.MaxGeneration-1)
	r.stages(1, []byte("y"), 3)
	r.flushes(3, api.OK)
	r.tells(r.super(api.MaxGeneration, 4, 3), 0)
	r.stages(1, []byte("x"), 4)
	r.untouched(func() { r.flushes(4, api.ErrFull) })
	r.rewinds(4, api.OK)
	r.loads(3, 1, []byte("y"))
	over(t, "P8.7", r.d, 0).tells(r.super(api.MaxGeneration, 4, 3), 0)
}

// P8.12: the image behind a Flush, byte for byte; up to it the image stays as it was.
func TestFlushedImages(t *testing.T) {
	for _, room := range []int{0, 1, 50} {
		r := begun(t, "P8.12", 40, room)
		for generation := 2; generation < 14; generation++ {
			want, n := r.d.Image(), generation%5
			for i := range n {
				page, c := r.s.Next(), content{1 + i%3, text(generation+i, generation*i*17%247)}
				r.stages(c.kind, c.load, page)
				r.loads(page, c.kind, c.load)
				copy(want[256*page:], packed(t, c.kind, page, c.load))
			}
			mark, head := r.s.Next(), lastOf(r.s.Next())
			copy(want[256*(generation%2):], slot(t, r.super(generation, mark, head)))
			r.untouched(func() { r.flushes(mark, api.ErrPage) })
			r.flushes(head, api.OK)
			if !bytes.Equal(r.d.Image(), want) {
				t.Fatalf("P8.12: another image behind generation %d", generation)
			}
		}
	}
}

// P8.7, P8.12: a Stage, a Load and a Rewind leave the image as it is.
func TestNothingIsWrittenAheadOfAFlush(t *testing.T) {
	r := half(t, "P8.7", 1)
	was := r.d.Image()
	r.acts(3, 0, 0, func() {
		r.stages(1, text(1, 200), 6)
		r.loads(2, 1, []byte("a"))
		r.loads(3, 2, []byte("bb"))
		r.rewinds(5, api.OK)
		r.loads(4, 3, []byte("ccc"))
		r.loads(2, 1, []byte("a"))
		r.stagesNot(1, make([]byte, 247), api.ErrLoad)
		r.loadsNot(5, api.ErrPage)
		r.flushes(5, api.ErrPage)
	})
	if !bytes.Equal(r.d.Image(), was) || r.d.Counts().Open != 0 {
		t.Errorf("P8.7: something was written ahead of a Flush")
	}
}

// P8.7: another head at each Flush: what a later store finds is the last one.
func TestFlushesInTurn(t *testing.T) {
	r := begun(t, "P8.10", 30, 2)
	for i := range 20 {
		r.stages(1+i%3, text(i, 12*i), 2+i)
		r.flushes([]int{0, 2, 2 + i}[i%3], api.OK)
		later := onImage(t, "P8.10", r.d.Image(), i%4)
		later.tells(r.s.Super(), 0)
		for j := range i + 1 {
			later.loads(2+j, 1+j%3, text(j, 12*j))
		}
	}
}
