package index

import (
	"iter"

	"ledger/api"
	"ledger/store"
)

// spot is a record that was looked at and stands, with its page.
type spot struct {
	page   int
	record api.Record
}

// number tells the number of a spot's record.
func (at spot) number() int { return numberOf(at.record) }

// way gives the spots from one on, down to the record of a wanted number, each with how the look at it went. Behind one that does not stand it ends.
func way(s *store.Store, from spot, wanted int) iter.Seq2[spot, api.Errno] {
	return func(yield func(spot, api.Errno) bool) {
		at, e := from, api.OK
		for yield(at, e) && e == api.OK && at.number() > wanted {
			at, e = follow(s, at, wanted)
		}
	}
}

// follow looks at the next record on the way to a wanted number.
func follow(s *store.Store, from spot, wanted int) (spot, api.Errno) {
	page, number := from.link(wanted)
	at, e := look(s, page)
	if e != api.OK {
		return spot{}, e
	}
	// Under one First the number tells the Version.
	if at.record.First != from.record.First || at.number() != number {
		return spot{}, api.ErrCorrupt
	}
	return at, api.OK
}

// link tells the page to go to for a wanted number, and the number that its record must have.
func (at spot) link(wanted int) (page, number int) {
	i := at.number()
	if far := skipped(i); far >= wanted {
		return at.record.Skip, far
	}
	return at.record.Prev, i - 1
}

// look tells the record of a page, whoever led to it, if it stands by itself.
func look(s *store.Store, page int) (spot, api.Errno) {
	kind, load, e := s.Load(page)
	if e != api.OK || kind != api.KindRecord {
		return spot{}, api.ErrCorrupt
	}
	r, e := Decode(load)
	// Links that only lead to lower pages are what makes every way end.
	if e != api.OK || max(r.Prev, r.Skip, r.Root) >= page {
		return spot{}, api.ErrCorrupt
	}
	return spot{page, r}, api.OK
}
