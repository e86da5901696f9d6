package index_test

import (
	"strconv"
	"strings"

	"ledger/api"
	"ledger/index"
)

// What follows reads the promises P15.1 and P15.4 to P15.10 word for word, with numbers as rows of binary digits: its shape is not the program's.

// numberOf tells the number of a record that has a Version and a First that may be.
func numberOf(x api.Record) int {
	if x.First == 0 {
		return x.Version
	}
	return x.Version - x.First + 1
}

// lastOneOff tells a number with the lowest of its binary digits that is 1 made 0.
func lastOneOff(i int) int {
	digits := strconv.FormatInt(int64(i), 2)
	last := strings.LastIndexByte(digits, '1')
	n, _ := strconv.ParseInt(digits[:last]+strings.Repeat("0", len(digits)-last), 2, 64)
	return int(n)
}

// digitsOf tells how many binary digits a number has.
func digitsOf(i int) int { return len(strconv.FormatInt(int64(i), 2)) }

// within tells whether n is one of the numbers from a to b.
func within(n, a, b int) bool { return a <= n && n <= b }

// rightForm reads P15.1.
func rightForm(x api.Record) bool {
	if !within(x.First, 0, top) || !within(x.Version, 1, top) || x.Version < x.First {
		return false
	}
	if x.Root != 0 && !within(x.Root, 2, 4095) || (x.Count == 0) != (x.Root == 0) || !within(x.Count, 0, 4096) {
		return false
	}
	i := numberOf(x)
	if i == 1 && x.Prev != 0 || i != 1 && !within(x.Prev, 2, 4095) {
		return false
	}
	if lastOneOff(i) == 0 {
		return x.Skip == 0
	}
	if i%2 == 1 {
		return x.Skip == x.Prev
	}
	return within(x.Skip, 2, x.Prev-1)
}

// reading is one call's look at the records of a store.
type reading struct {
	*rig
	looked []int // the pages, in their order
}

// look reads P15.4 of a page that another record leads to, with the First and the Version that are asked for.
func (x *reading) look(page, first, version int) (api.Record, bool) {
	r, stands := x.head(page)
	return r, stands && r.First == first && r.Version == version
}

// head reads P15.4 of a page that nobody leads to.
func (x *reading) head(page int) (api.Record, bool) {
	x.looked = append(x.looked, page)
	kind, load, e := x.s.Load(page)
	if e != api.OK || kind != 3 || len(load) != 56 {
		return api.Record{}, false
	}
	var r api.Record
	for i, field := range []*int{&r.Version, &r.First, &r.Prev, &r.Skip, &r.Root, &r.Count} {
		for j := range 4 {
			*field += int(load[4*i+j]) << (8 * j)
		}
	}
	copy(r.Sum[:], load[24:])
	return r, rightForm(r) && r.Prev < page && r.Skip < page && r.Root < page
}

// isNoPage tells whether a number is neither 0 nor a page's.
func (x *reading) isNoPage(page int) bool { return page != 0 && !within(page, 2, x.s.Next()-1) }

// find reads P15.8.
func (x *reading) find(head, version int) (api.Record, int, api.Errno) {
	empty := emptyRecord(x.s.Super().Width)
	switch {
	case x.isNoPage(head):
		return api.Record{}, 0, api.ErrPage
	case version < 0:
		return api.Record{}, 0, api.ErrArg
	case head == 0 && version == 0:
		return empty, 0, api.OK
	case head == 0:
		return api.Record{}, 0, api.ErrVersion
	}
	at, stands := x.head(head)
	switch {
	case !stands:
		return api.Record{}, 0, api.ErrCorrupt
	case version > at.Version:
		return api.Record{}, 0, api.ErrVersion
	case version < at.First:
		return api.Record{}, 0, api.ErrGone
	case version == 0:
		return empty, 1, api.OK
	}
	for at.Version != version {
		back := numberOf(at) - lastOneOff(numberOf(at)) // by so many versions Skip leads back
		if at.Version-back >= version && lastOneOff(numberOf(at)) != 0 {
			at, stands = x.look(at.Skip, at.First, at.Version-back)
		} else {
			at, stands = x.look(at.Prev, at.First, at.Version-1)
		}
		if !stands {
			return api.Record{}, 0, api.ErrCorrupt
		}
	}
	return at, len(x.looked), api.OK
}

// bounds reads P15.10.
func (x *reading) bounds(head int) (int, int, api.Errno) {
	if x.isNoPage(head) {
		return 0, 0, api.ErrPage
	}
	if head == 0 {
		return 0, 0, api.OK
	}
	at, stands := x.head(head)
	if !stands {
		return 0, 0, api.ErrCorrupt
	}
	return at.First, at.Version, api.OK
}

// add reads P15.5 to P15.7, but for what Stage answers: which record is to be staged, or why it is refused.
func (x *reading) add(head int, r api.Record) (api.Record, api.Errno) {
	firstOnes := r.Version == 1 && r.First == 0 || r.Version == r.First && within(r.First, 1, top)
	switch {
	case x.isNoPage(head), x.isNoPage(r.Root):
		return api.Record{}, api.ErrPage
	case (r.Count == 0) != (r.Root == 0), !within(r.Count, 0, 4096):
		return api.Record{}, api.ErrRecord
	case head == 0 && !firstOnes:
		return api.Record{}, api.ErrRecord
	case head == 0:
		return api.Record{Version: r.Version, First: r.First, Root: r.Root, Count: r.Count, Sum: r.Sum}, api.OK
	}
	at, stands := x.head(head)
	if !stands {
		return api.Record{}, api.ErrCorrupt
	}
	if at.Version == top {
		return api.Record{}, api.ErrRecord
	}
	next := api.Record{Version: at.Version + 1, First: at.First, Prev: head, Root: r.Root, Count: r.Count, Sum: r.Sum}
	i := numberOf(next)
	switch lastOneOff(i) {
	case 0:
		return next, api.OK
	case i - 1:
		next.Skip = head
		return next, api.OK
	}
	for numberOf(at) != lastOneOff(i) {
		next.Skip = at.Skip
		back := numberOf(at) - lastOneOff(numberOf(at))
		if at, stands = x.look(at.Skip, at.First, at.Version-back); !stands {
			return api.Record{}, api.ErrCorrupt
		}
	}
	return next, api.OK
}

// asReadFind asks that Find answers what the reading does, with as many looks, and tells at which pages they are.
func (r *rig) asReadFind(head, version int) ([]int, api.Errno) {
	r.Helper()
	x := reading{rig: r}
	want, looked, why := x.find(head, version)
	r.quiet(func() {
		r.Helper()
		before := r.loads()
		got, n, e := index.Find(r.s, head, version)
		if got != want || n != looked || e != why {
			r.Errorf("%s: Find(%d, %d) = %+v, %d, %v, want %+v, %d, %v", r.promise, head, version, got, n, e, want, looked, why)
		}
		if n := r.loads() - before; n != len(x.looked) {
			r.Errorf("%s: Find(%d, %d) looks at %d pages, want %v", r.promise, head, version, n, x.looked)
		}
	})
	return x.looked, why
}

// asReadBounds asks that Bounds answers what the reading does, with as many looks.
func (r *rig) asReadBounds(head int) {
	r.Helper()
	x := reading{rig: r}
	first, last, why := x.bounds(head)
	before := r.loads()
	r.bounds(head, first, last, why)
	if n := r.loads() - before; n != len(x.looked) {
		r.Errorf("%s: Bounds(%d) looks at %d pages, want %v", r.promise, head, n, x.looked)
	}
}

// asReadAdd asks that Add stages what the reading says, with as many looks, and tells at which pages they are. What is staged is left there.
func (r *rig) asReadAdd(head int, rec api.Record) ([]int, api.Errno) {
	r.Helper()
	x := reading{rig: r}
	want, why := x.add(head, rec)
	if why == api.OK && r.s.Next() == r.s.Pages() {
		why = api.ErrFull
	}
	before := r.loads()
	if why != api.OK {
		r.addsNot(head, rec, why)
	} else {
		r.adds(head, rec, want)
		before++ // its own look at what was staged
	}
	if n := r.loads() - before; n != len(x.looked) {
		r.Errorf("%s: Add(%d, %+v) looks at %d pages, want %v", r.promise, head, rec, n, x.looked)
	}
	return x.looked, why
}
