package index_test

import (
	"testing"

	"ledger/api"
	"ledger/index"
	"ledger/node"
)

// eight makes eight records, on the pages 2 to 9 as in row 2.
func eight(t *testing.T, promise string) *rig {
	t.Helper()
	r := begun(t, promise, 16)
	r.chain(1, 0, 8)
	return r
}

// Row 1: a fresh store.
func TestExampleFresh(t *testing.T) {
	r := begun(t, "example 1", 16)
	r.finds(0, 0, 0, api.Record{Sum: node.Empty(4, 256)})
	r.findsNot(0, 1, api.ErrVersion)
	r.findsNot(0, -1, api.ErrArg)
	r.bounds(0, 0, 0, api.OK)
}

// Row 2: which links eight records have.
func TestExampleEight(t *testing.T) {
	r := begun(t, "example 2", 16)
	e := node.Empty(4, 256)
	links := [][2]int{{0, 0}, {2, 0}, {3, 3}, {4, 0}, {5, 5}, {6, 5}, {7, 7}, {8, 0}}
	for i, l := range links {
		page := r.adds(l[0], api.Record{Version: 1, Sum: e}, api.Record{Version: i + 1, Prev: l[0], Skip: l[1], Sum: e})
		if page != i+2 {
			t.Errorf("example 2: page %d, want %d", page, i+2)
		}
	}
}

// Rows 3 to 5: what is found of them, and by how many looks.
func TestExamplesFind(t *testing.T) {
	r := eight(t, "examples 3 to 5")
	for _, c := range []struct{ head, version, looked, page int }{
		{9, 8, 1, 9}, {9, 7, 2, 8}, {9, 4, 4, 5}, {9, 1, 7, 2}, {7, 3, 3, 4},
	} {
		r.finds(c.head, c.version, c.looked, r.at(c.page))
	}
	r.finds(9, 0, 1, api.Record{Sum: node.Empty(4, 256)})
	r.findsNot(9, 9, api.ErrVersion)
	r.bounds(7, 0, 6, api.OK)
}

// Row 6: a ledger that begins with version 40.
func TestExampleForty(t *testing.T) {
	r := begun(t, "example 6", 16)
	one := api.Record{Version: 40, First: 40, Sum: sumOf(1)}
	two := api.Record{Version: 41, First: 40, Prev: 2, Sum: sumOf(2)}
	r.adds(0, one, one)
	r.adds(2, api.Record{Sum: sumOf(2)}, two)
	r.findsNot(3, 39, api.ErrGone)
	r.findsNot(3, 0, api.ErrGone)
	r.findsNot(3, 42, api.ErrVersion)
	r.finds(3, 40, 2, one)
	r.finds(3, 41, 1, two)
}

// Row 7: which record may be the first one.
func TestExampleFirst(t *testing.T) {
	r := begun(t, "example 7", 16)
	r.addsNot(0, linked(2, 0, 0, 0), api.ErrRecord)
	r.adds(0, linked(1, 1, 0, 0), linked(1, 1, 0, 0))
	r.addsNot(0, linked(3, 2, 0, 0), api.ErrRecord)
	r.addsNot(0, linked(0, 0, 0, 0), api.ErrRecord)
	r.addsNot(0, linked(top+1, top+1, 0, 0), api.ErrRecord)
}

// Row 8: roots, counts and heads that may not be.
func TestExampleRoots(t *testing.T) {
	r := eight(t, "example 8")
	r.addsNot(0, api.Record{Version: 1, Root: 0, Count: 1}, api.ErrRecord)
	r.addsNot(0, api.Record{Version: 1, Root: r.s.Next()}, api.ErrPage)
	r.addsNot(r.s.Next(), api.Record{Version: 1}, api.ErrPage)
}

// Row 9: a leaf as head, and a Prev that leads to another First.
func TestExampleCorrupt(t *testing.T) {
	r := begun(t, "example 9", 16)
	r.filler(3)
	r.refused(2, api.ErrCorrupt)
	prev := r.record(linked(1, 0, 0, 0))
	head := r.record(linked(2, 1, prev, 0))
	r.finds(head, 2, 1, linked(2, 1, prev, 0))
	r.bounds(head, 1, 2, api.OK)
	r.findsNot(head, 1, api.ErrCorrupt)
}

// Row 10: records that are not right by their form.
func TestExampleForm(t *testing.T) {
	for _, r := range []api.Record{linked(3, 0, 5, 4), linked(4, 0, 5, 3), linked(6, 0, 9, 9)} {
		if load, e := index.Encode(r); load != nil || e != api.ErrRecord {
			t.Errorf("example 10: Encode(%+v) = %v, %v", r, load, e)
		}
	}
}
