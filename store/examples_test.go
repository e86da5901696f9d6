package store_test

import (
	"testing"

	"ledger/api"
	"ledger/file"
	"ledger/store"
)

// The rows of the chapter's examples, by their numbers.

// behind4 goes through the examples 1 to 4.
func behind4(t *testing.T) *rig {
	t.Helper()
	r := begun(t, "example 1", 5, 1)
	for _, room := range []int{-1, 4097} {
		if s, e := store.New(r.f, room); s != nil || e != api.ErrArg {
			t.Errorf("example 1: New(f, %d): %v, %v", room, s, e)
		}
	}
	if s, e := store.New(nil, 0); s != nil || e != api.ErrArg {
		t.Errorf("example 1: New(nil, 0): %v, %v", s, e)
	}
	r.tells(api.Super{Width: 32, Generation: 1, Mark: 2, Head: 0, Pages: 5}, 0)

	r.promise = "example 2"
	r.loadsNot(2, api.ErrPage)
	r.stagesNot(4, make([]byte, 247), api.ErrKind)
	r.stagesNot(1, make([]byte, 247), api.ErrLoad)
	r.stages(1, []byte("a"), 2)
	r.stages(2, []byte("b"), 3)
	r.stages(3, []byte("c"), 4)
	r.stagesNot(3, []byte("d"), api.ErrFull)
	r.stagesNot(3, make([]byte, 247), api.ErrLoad)

	r.promise = "example 3"
	r.loads(3, 2, []byte("b"))
	r.tallies(1, 0, 0, 0, 3)
	r.counts(4, 2, 2)

	r.promise = "example 4"
	r.rewinds(1, api.ErrArg)
	r.rewinds(6, api.ErrArg)
	r.rewinds(4, api.OK)
	r.tells(r.super(1, 2, 0), 2)
	r.loadsNot(4, api.ErrPage)
	r.stages(3, []byte("e"), 4)
	return r
}

func TestExamples1To6(t *testing.T) {
	r := behind4(t)
	r.promise = "example 5"
	r.flushes(5, api.ErrPage)
	r.flushes(1, api.ErrPage)
	r.flushes(-1, api.ErrPage)
	r.d.Arm(2)
	r.flushes(4, api.ErrDown)
	r.tells(r.super(1, 2, 0), 3)
	r.loadsNot(2, api.ErrDown)

	r.promise = "example 6"
	r.d.Crash(nil)
	r.loadsNot(2, api.ErrStale)
	over(t, "example 6", r.d, 1).tells(r.super(1, 2, 0), 0)
}

func TestExamples7And8(t *testing.T) {
	r := behind4(t)
	r.promise = "example 7"
	r.flushes(4, api.OK)
	r.tells(api.Super{Width: 32, Generation: 2, Mark: 5, Head: 4, Pages: 5}, 0)
	r.tallies(1, 0, 2, 1, 0)
	r.loads(2, 1, []byte("a"))
	r.tallies(1, 1, 3, 1, 0)

	r.promise = "example 8"
	r.flushes(0, api.OK)
	r.tells(r.super(3, 5, 0), 0)
	f, e := file.Open(r.d)
	if e != api.OK || f.Super() != r.super(3, 5, 0) {
		t.Errorf("example 8: opened again: %v, %v", f, e)
	}
}
