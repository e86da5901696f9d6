package store_test

import (
	"testing"

	"ledger/api"
)

// P8.5: the kinds and lengths that there may be, and which error comes first.
func TestStageRefusals(t *testing.T) {
	r := half(t, "P8.5", 2)
	r.untouched(func() {
		for _, kind := range []int{lowest, -1, 0, 4, 5, 256 + 1, 1<<32 + 1, highest} {
			r.stagesNot(kind, nil, api.ErrKind)
			r.stagesNot(kind, make([]byte, 246), api.ErrKind)
			r.stagesNot(kind, make([]byte, 247), api.ErrKind)
		}
		for kind := 1; kind <= 3; kind++ {
			for _, n := range []int{247, 248, 256, 5000} {
				r.stagesNot(kind, make([]byte, n), api.ErrLoad)
			}
		}
	})
	for kind := 1; kind <= 3; kind++ {
		r.rewinds(4, api.OK)
		for i, n := range []int{0, 1, 245, 246} {
			r.stages(kind, text(n, n), 4+i)
			r.loads(4+i, kind, text(n, n))
		}
	}
}

// P8.5: numbers follow one another from the mark on; nothing is written, read or synced.
func TestStageNumbers(t *testing.T) {
	r := begun(t, "P8.5", 40, 1)
	for round := range 4 {
		mark := 2 + 8*round
		r.acts(0, 0, 0, func() {
			for i := range 8 {
				r.tells(r.super(1+round, mark, 0), i)
				r.stages(1+i%3, text(i, 10*i), mark+i)
			}
		})
		if tally := r.s.Tally(); tally.Held != 8 {
			t.Errorf("P8.5: %+v", tally)
		}
		r.flushes(0, api.OK)
	}
}

// P8.5: a disk that is full; the arguments' errors go ahead of that.
func TestStageOnAFullDisk(t *testing.T) {
	for _, pages := range []int{3, 4, 9} {
		r := begun(t, "P8.5", pages, 1)
		full := func() {
			t.Helper()
			r.untouched(func() {
				for kind := 1; kind <= 3; kind++ {
					r.stagesNot(kind, nil, api.ErrFull)
					r.stagesNot(kind, make([]byte, 246), api.ErrFull)
					r.stagesNot(kind, make([]byte, 247), api.ErrLoad)
				}
				r.stagesNot(0, nil, api.ErrKind)
				r.stagesNot(4, make([]byte, 247), api.ErrKind)
			})
		}
		for page := 2; page < pages; page++ {
			r.stages(2, nil, page)
		}
		full()
		r.tells(r.super(1, 2, 0), pages-2)
		r.flushes(pages-1, api.OK)
		full()
		r.tells(r.super(2, pages, pages-1), 0)
		r.flushes(pages-1, api.OK)
		r.rewinds(pages, api.OK)
		full()
	}
}

// P8.5: a full disk has room again behind a Rewind.
func TestStageBehindARewind(t *testing.T) {
	r := begun(t, "P8.5", 5, 0)
	for page := 2; page < 5; page++ {
		r.stages(1, text(page, 9), page)
	}
	r.stagesNot(1, nil, api.ErrFull)
	r.rewinds(3, api.OK)
	r.loadsNot(3, api.ErrPage)
	r.stages(2, []byte("new"), 3)
	r.loads(2, 1, text(2, 9))
	r.loads(3, 2, []byte("new"))
	r.loadsNot(4, api.ErrPage)
	r.stages(3, []byte("newer"), 4)
	r.loads(4, 3, []byte("newer"))
	r.flushes(4, api.OK)
	r.loads(2, 1, text(2, 9))
	r.loads(3, 2, []byte("new"))
	r.loads(4, 3, []byte("newer"))
}

// P8.6: below the mark, at it, within, at Next and above it.
func TestRewind(t *testing.T) {
	for next := 4; next <= 6; next++ {
		r := half(t, "P8.6", 2)
		r.loads(2, 1, []byte("a"))
		r.loads(4, 3, []byte("ccc"))
		r.untouched(func() {
			for _, wrong := range []int{lowest, -1, 0, 1, 2, 3, 7, 8, 9, highest} {
				r.rewinds(wrong, api.ErrArg)
			}
		})
		r.acts(0, 0, 0, func() { r.rewinds(next, api.OK) })
		r.tells(r.super(2, 4, 3), next-4)
		r.tallies(1, 1, 0, 1, next-4)
		r.rewinds(next+1, api.ErrArg)
		r.rewinds(next, api.OK)
		r.loads(2, 1, []byte("a"))
		if next > 4 {
			r.loads(4, 3, []byte("ccc"))
		}
		r.loadsNot(next, api.ErrPage)
		r.flushes(next, api.ErrPage)
		r.stages(2, []byte("again"), next)
		r.loads(next, 2, []byte("again"))
	}
}

// P8.6: with nothing staged Next alone may be given.
func TestRewindOfNothing(t *testing.T) {
	r := begun(t, "P8.6", 5, 1)
	r.untouched(func() {
		r.rewinds(1, api.ErrArg)
		r.rewinds(2, api.OK)
		r.rewinds(3, api.ErrArg)
	})
	r.stages(1, nil, 2)
	r.flushes(2, api.OK)
	r.untouched(func() {
		r.rewinds(2, api.ErrArg)
		r.rewinds(3, api.OK)
		r.rewinds(4, api.ErrArg)
	})
	r.loads(2, 1, nil)
}

// P8.6: what was forgotten is not flushed.
func TestRewoundPagesAreNotWritten(t *testing.T) {
	r := begun(t, "P8.6", 8, 4)
	for page := 2; page < 7; page++ {
		r.stages(1, text(page, 20), page)
	}
	r.rewinds(4, api.OK)
	r.acts(0, 3, 2, func() { r.flushes(3, api.OK) })
	r.tells(r.super(2, 4, 3), 0)
	r.tallies(0, 0, 0, 2, 0)
	r.loadsNot(4, api.ErrPage)
	for _, b := range r.d.Image()[4*256:] {
		if b != 0 {
			t.Fatalf("P8.6: a page that was forgotten is on the disk")
		}
	}
}

// P8.9: staged pages never go for want of room; the clean ones are never more than it.
func TestStagedPagesStay(t *testing.T) {
	for _, room := range []int{0, 1, 3} {
		r := begun(t, "P8.9", 200, room)
		for page := 2; page < 100; page++ {
			r.stages(1, text(page, page), page)
		}
		r.flushes(0, api.OK)
		for page := 100; page < 198; page++ {
			r.stages(2, text(page, 100), page)
			r.loads(page-98, 1, text(page-98, page-98))
		}
		for page := 100; page < 198; page++ {
			r.loads(page, 2, text(page, 100))
			r.loads(page-98, 1, text(page-98, page-98))
			if tally := r.s.Tally(); tally.Clean > room || tally.Held != 98 {
				t.Fatalf("P8.9: with room %d: %+v", room, tally)
			}
		}
	}
}
