package store_test

import (
	"testing"

	"ledger/api"
	"ledger/store"
)

// P8.2: nil goes ahead of whatever the room is.
func TestNewOfNil(t *testing.T) {
	for _, room := range []int{lowest, -1, 0, 1, 4096, 4097, highest} {
		if s, e := store.New(nil, room); s != nil || e != api.ErrArg {
			t.Errorf("P8.2: New(nil, %d): %v, %v", room, s, e)
		}
	}
}

// P8.2: which rooms there may be, and that a refused New forgets nothing.
func TestNewRooms(t *testing.T) {
	for _, room := range []int{lowest, -4096, -1, 4097, 8192, highest} {
		r := begun(t, "P8.2", 8, 0)
		if _, e := r.f.Append(1, nil); e != api.OK {
			t.Fatal(e)
		}
		r.untouched(func() {
			if s, e := store.New(r.f, room); s != nil || e != api.ErrArg {
				t.Errorf("P8.2: New(f, %d): %v, %v", room, s, e)
			}
		})
		if r.f.Next() != 3 {
			t.Errorf("P8.2: New(f, %d), which was refused: the file's Next is %d", room, r.f.Next())
		}
	}
	for _, room := range []int{0, 1, 2, 4095, 4096} {
		r := begun(t, "P8.2", 8, room)
		r.tells(r.super(1, 2, 0), 0)
		r.tallies(0, 0, 0, 0, 0)
		r.is("Live", r.s.Live(), api.OK)
		r.counts(4, 2, 2)
	}
}

// P8.2: Live's answer goes ahead of the room's, and such a New forgets nothing.
func TestNewOfAFileThatIsNotLive(t *testing.T) {
	for _, room := range []int{lowest, -1, 0, 4096, 4097} {
		r := begun(t, "P8.2", 8, 0)
		refused := func(want api.Errno) {
			t.Helper()
			r.untouched(func() {
				if s, e := store.New(r.f, room); s != nil || e != want {
					t.Errorf("P8.2: New(f, %d): %v, %v, want nil, %v", room, s, e, want)
				}
			})
		}
		if _, e := r.f.Append(1, nil); e != api.OK {
			t.Fatal(e)
		}
		r.endEachWay(refused)
		if r.f.Next() != 3 {
			t.Errorf("P8.2: the refused New: the file's Next is %d", r.f.Next())
		}
	}
}

// P8.2: what was appended and not published is forgotten; nothing is read or written by it.
func TestNewForgetsWhatWasAppended(t *testing.T) {
	r := begun(t, "P8.2", 8, 0)
	r.stages(1, []byte("kept"), 2)
	r.flushes(2, api.OK)
	for _, load := range []string{"lost", "too"} {
		if _, e := r.f.Append(2, []byte(load)); e != api.OK {
			t.Fatal(e)
		}
	}
	earlier := *r
	earlier.untouched(func() {
		s, e := store.New(r.f, 3)
		if s == nil || e != api.OK {
			t.Fatalf("P8.2: New: %v, %v", s, e)
		}
		r.s = s
	})
	r.tallies(0, 0, 0, 0, 0)
	if r.f.Next() != 3 {
		t.Errorf("P8.2: the file's Next is %d", r.f.Next())
	}
	r.tells(r.super(2, 3, 2), 0)
	r.loadsNot(3, api.ErrPage)
	r.stages(3, []byte("new"), 3)
	r.flushes(3, api.OK)
	r.loads(2, 1, []byte("kept"))
	r.loads(3, 3, []byte("new"))
	r = over(t, "P8.2", r.d, 0)
	r.tells(r.super(3, 4, 3), 0)
	r.loads(3, 3, []byte("new"))
}

// P8.2: a store begins with an empty cache, whatever an earlier one over the same disk kept.
func TestNewHasAnEmptyCache(t *testing.T) {
	r := begun(t, "P8.2", 8, 4)
	r.stages(1, []byte("a"), 2)
	r.stages(1, []byte("b"), 3)
	r.flushes(3, api.OK)
	r.tallies(0, 0, 0, 2, 0)
	r = over(t, "P8.2", r.d, 4)
	r.tallies(0, 0, 0, 0, 0)
	r.acts(1, 0, 0, func() { r.loads(2, 1, []byte("a")) })
	r.tallies(0, 1, 0, 1, 0)
}

// P8.1: the room is the one that New was given.
func TestRoomIsTheGivenOne(t *testing.T) {
	for _, room := range []int{0, 1, 2, 7, 50} {
		r := begun(t, "P8.1", 60, room)
		for page := 2; page < 60; page++ {
			r.stages(1, nil, page)
		}
		r.flushes(0, api.OK)
		r.tallies(0, 0, 58-room, room, 0)
	}
	r := begun(t, "P8.1", 4096, 4096)
	for page := 2; page < 4096; page++ {
		r.stages(1, nil, page)
	}
	r.flushes(4095, api.OK)
	r.tallies(0, 0, 0, 4094, 0)
	r.tells(r.super(2, 4096, 4095), 0)
}

// P8.3, R2: of a store that is not live all but Live answer what they answered; all that must be live is refused by that alone.
func TestStoreThatIsNotLive(t *testing.T) {
	r := begun(t, "P8.3", 8, 2)
	r.stages(1, []byte("a"), 2)
	r.stages(2, []byte("b"), 3)
	r.flushes(3, api.OK)
	r.loads(2, 1, []byte("a"))
	r.stages(3, []byte("c"), 4)
	r.stages(1, []byte("d"), 5)
	refused := func(want api.Errno) {
		t.Helper()
		r.untouched(func() {
			r.is("Live", r.s.Live(), want)
			for _, page := range []int{lowest, -1, 0, 1, 2, 3, 4, 5, 6, 7, 8, highest} {
				r.loadsNot(page, want)
				r.rewinds(page, want)
				r.flushes(page, want)
			}
			for kind := -1; kind <= 4; kind++ {
				r.stagesNot(kind, nil, want)
				r.stagesNot(kind, make([]byte, 246), want)
				r.stagesNot(kind, make([]byte, 247), want)
			}
		})
		r.tells(r.super(2, 4, 3), 2)
		r.tallies(1, 0, 0, 2, 2)
	}
	r.endEachWay(refused)
	r.d.Crash(nil)
	over(t, "P8.3", r.d, 0)
	refused(api.ErrStale)
}

// P8.3: several stores over one disk: another Open makes the earlier one stale, and neither sees what the other stages.
func TestSeveralStoresOverOneDisk(t *testing.T) {
	a := begun(t, "P8.3", 10, 3)
	a.stages(1, []byte("a"), 2)
	a.flushes(2, api.OK)
	a.stages(1, []byte("lost"), 3)
	b := over(t, "P8.3", a.d, 3)
	b.tells(b.super(2, 3, 2), 0)
	a.is("Live", a.s.Live(), api.ErrStale)
	b.is("Live", b.s.Live(), api.OK)
	b.loads(2, 1, []byte("a"))
	b.stages(2, []byte("b"), 3)
	b.stages(3, []byte("c"), 4)
	b.flushes(4, api.OK)
	a.untouched(func() {
		a.loadsNot(2, api.ErrStale)
		a.loadsNot(3, api.ErrStale)
		a.flushes(3, api.ErrStale)
	})
	a.tells(a.super(2, 3, 2), 1)
	a.tallies(0, 0, 0, 1, 1)
	c := over(t, "P8.3", a.d, 0)
	c.tells(c.super(3, 5, 4), 0)
	c.loads(3, 2, []byte("b"))
	b.tells(b.super(3, 5, 4), 0)
	b.loadsNot(3, api.ErrStale)
	a.is("Live", a.s.Live(), api.ErrStale)
}

// P8.3: a crash of another disk with the same bytes is not this one's.
func TestStaysLive(t *testing.T) {
	r := begun(t, "P8.3", 8, 2)
	r.stages(1, []byte("a"), 2)
	r.flushes(2, api.OK)
	twin := onImage(t, "P8.3", r.d.Image(), 2)
	twin.d.Crash(nil)
	r.is("Live", r.s.Live(), api.OK)
	r.loads(2, 1, []byte("a"))
	twin.loadsNot(2, api.ErrStale)
}
