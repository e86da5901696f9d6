package index_test

import (
	"fmt"
	"slices"
	"testing"

	"ledger/api"
	"ledger/index"
)

// P15.4, P15.8, P15.10: a page that is spoilt on the disk is met by those calls alone that look at it.
func TestSpoiltPages(t *testing.T) {
	for _, first := range []int{0, 40} {
		whole := begun(t, "P15.4", 80)
		made := grown(whole, first, 20)
		whole.flush()
		for spoilt := 2; spoilt < whole.s.Next(); spoilt++ {
			r := whole.reopened(0)
			r.promise = fmt.Sprintf("P15.4: page %d is spoilt", spoilt)
			r.d.Flip(spoilt, 8*spoilt%2048, 1)
			for n := 1; n < len(made.pages); n++ {
				r.meets(whole, made, n, spoilt)
			}
		}
	}
}

// meets asks of all calls at one head that they are refused just where they look at a spoilt page.
func (r *rig) meets(whole *rig, made row, n, spoilt int) {
	r.Helper()
	head, last := made.pages[n], made.added[n].Version
	for version := 0; version <= last+1; version++ {
		looked, why := whole.asReadFind(head, version)
		if slices.Contains(looked, spoilt) {
			r.findsNot(head, version, api.ErrCorrupt)
		} else if x, _, e := index.Find(r.s, head, version); e != why || e == api.OK && version > 0 && x.Version != version {
			r.Errorf("%s: Find(%d, %d) = %+v, %v, want %v", r.promise, head, version, x, e, why)
		}
	}
	if spoilt == head {
		r.bounds(head, 0, 0, api.ErrCorrupt)
	} else {
		r.bounds(head, made.first, last, api.OK)
	}
	next := whole.s.Next()
	looked, why := whole.asReadAdd(head, api.Record{Sum: sumOf(n)})
	if slices.Contains(looked, spoilt) {
		r.addsNot(head, api.Record{Sum: sumOf(n)}, api.ErrCorrupt)
	} else if page, e := index.Add(r.s, head, api.Record{Sum: sumOf(n)}); page != next || e != why || r.at(page) != whole.at(page) {
		r.Errorf("%s: Add(%d) = %d, %v", r.promise, head, page, e)
	}
	whole.rewind(next)
	r.rewind(next)
}

// P15.4: a page that the store has clean is as it was, though the disk's bytes are spoilt: what counts is what Load answers.
func TestCleanPagesAreNotSpoilt(t *testing.T) {
	r := begun(t, "P15.4", 40).reopened(4096)
	made := grown(r, 0, 20)
	r.flush()
	for page := 2; page < r.s.Next(); page++ {
		r.d.Flip(page, 77, 1)
	}
	r.isRow(made)
	r.reopened(4096).refused(made.pages[20], api.ErrCorrupt)
}

// R6: the room is not seen, nor whether pages are staged or on the disk.
func TestRoomIsNotSeen(t *testing.T) {
	whole := begun(t, "R6", 200)
	grown(whole, 0, 30)
	whole.flush()
	rigs := []*rig{whole}
	for _, room := range []int{0, 1, 2, 5, 4096} {
		rigs = append(rigs, whole.reopened(room))
	}
	for step := range 12 {
		for _, r := range rigs {
			head := r.s.Next() - 1
			page, e := index.Add(r.s, head, api.Record{Root: 2, Count: 1, Sum: sumOf(step)})
			x, n, why := index.Find(r.s, page, 30)
			y, m, reason := index.Find(whole.s, whole.s.Next()-1, 30)
			if page != whole.s.Next()-1 || e != api.OK || x != y || n != m || why != reason {
				t.Errorf("R6: %d, %v, %+v, %d, %v, want %d, %+v, %d, %v", page, e, x, n, why, whole.s.Next()-1, y, m, reason)
			}
			if step%3 == 2 {
				r.flush()
			}
		}
	}
	for _, r := range rigs {
		if string(r.d.Image()) != string(whole.d.Image()) {
			t.Errorf("R8: the images differ")
		}
	}
}
