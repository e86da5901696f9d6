package store_test

import (
	"bytes"
	"slices"
	"testing"

	"ledger/api"
)

// scribble writes over all bytes of b and of the room behind it.
func scribble(b []byte) {
	b = b[:cap(b)]
	for i := range b {
		b[i] ^= 0xFF
	}
}

var lengths = []int{0, 1, 3, 100, 245, 246}

// P8.5, R5: what is handed in is neither changed nor kept, nor is the room behind it.
func TestStagedLoadIsACopy(t *testing.T) {
	for _, n := range lengths {
		for _, room := range []int{0, 2} {
			r := begun(t, "P8.5", 5, room)
			whole := slices.Concat(text(n, n), []byte("spare room"))
			was := bytes.Clone(whole)
			r.stages(2, whole[:n], 2)
			scribble(whole)
			r.loads(2, 2, text(n, n))
			r.flushes(2, api.OK)
			scribble(whole)
			if !bytes.Equal(whole, was) {
				t.Errorf("P8.5: a load of %d bytes was changed", n)
			}
			scribble(whole)
			r.loads(2, 2, text(n, n))
			if page := r.d.Image()[512:768]; !bytes.Equal(page, packed(t, 2, 2, text(n, n))) {
				t.Errorf("P8.12: a load of %d bytes, written over behind its Stage: %v", n, page)
			}
		}
	}
}

// P8.5, R5: one list staged twice with other bytes in it is two pages.
func TestOneListStagedTwice(t *testing.T) {
	r := begun(t, "P8.5", 6, 2)
	load := []byte("abc")
	for page := 2; page < 6; page++ {
		load[0] = byte('0' + page)
		r.stages(1, load, page)
	}
	r.flushes(0, api.OK)
	for page := 2; page < 6; page++ {
		r.loads(page, 1, []byte{byte('0' + page), 'b', 'c'})
	}
}

// P8.4, R5: an answer is new memory, its spare room too: of a staged page, of a clean one, of one that was read just now.
func TestLoadedIsACopy(t *testing.T) {
	for _, n := range lengths {
		for _, room := range []int{0, 1, 2} {
			r := begun(t, "P8.4", 5, room)
			r.stages(2, text(n, n), 2)
			r.stages(3, text(n+1, 9), 3)
			again := func() {
				t.Helper()
				for range 3 {
					_, first, _ := r.s.Load(2)
					_, second, _ := r.s.Load(2)
					scribble(first)
					_ = append(first, text(5, 500)...)
					if !bytes.Equal(second, text(n, n)) {
						t.Errorf("P8.4: two answers of %d bytes share memory", n)
					}
					r.loads(2, 2, text(n, n))
					r.loads(3, 3, text(n+1, 9))
				}
			}
			again()
			r.flushes(2, api.OK)
			again()
			if page := r.d.Image()[512:768]; !bytes.Equal(page, packed(t, 2, 2, text(n, n))) {
				t.Errorf("P8.12: behind answers that were written into: %v", page)
			}
			r = over(t, "P8.4", r.d, room)
			again()
		}
	}
}

// R5: a refused load is not changed.
func TestRefusedLoadIsNotChanged(t *testing.T) {
	r := begun(t, "P8.5", 3, 0)
	load := text(1, 247)
	r.stagesNot(3, load, api.ErrLoad)
	r.stages(1, nil, 2)
	r.stagesNot(3, load[:246], api.ErrFull)
	if !bytes.Equal(load, text(1, 247)) {
		t.Errorf("P8.5: a refused load was changed")
	}
}

// R1: nil and empty loads are the same.
func TestNilAndEmptyLoads(t *testing.T) {
	r := begun(t, "P8.5", 4, 1)
	r.stages(1, nil, 2)
	r.stages(1, []byte{}, 3)
	for range 2 {
		r.loads(2, 1, nil)
		r.loads(3, 1, nil)
		r.flushes(0, api.OK)
	}
	image := r.d.Image()
	if !bytes.Equal(image[512:768], packed(t, 1, 2, nil)) || !bytes.Equal(image[768:], packed(t, 1, 3, nil)) {
		t.Errorf("P8.12: empty loads: %v", image[512:])
	}
}

// R5: what Super told does not change with the store, nor the store with it.
func TestSuperIsACopy(t *testing.T) {
	r := begun(t, "P8.3", 5, 0)
	told := r.s.Super()
	r.flushes(0, api.OK)
	if told != r.super(1, 2, 0) {
		t.Errorf("P8.3: what Super told has changed: %+v", told)
	}
	told.Mark = 4
	r.tells(r.super(2, 2, 0), 0)
}
