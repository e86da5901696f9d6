package index_test

import (
	"testing"

	"ledger/api"
	"ledger/file"
	"ledger/index"
)

// wrongRecords are records that Add refuses for their own sake, at any head.
var wrongRecords = []api.Record{
	{Version: 1, Root: 1, Count: 1}, {Version: 1, Root: -1}, {Version: 2, Root: highest, Count: highest}, {Root: lowest, Count: -1},
	{Version: 1, Count: 1}, {Version: 1, Count: -1}, {Version: highest, First: lowest, Count: highest},
}

// Of no store: ErrArg, whatever else is wrong.
func TestNoStore(t *testing.T) {
	for _, head := range []int{lowest, -1, 0, 1, 2, highest} {
		for _, x := range append(wrongRecords, api.Record{Version: 1}, api.Record{}) {
			if page, e := index.Add(nil, head, x); page != 0 || e != api.ErrArg {
				t.Errorf("P15.5: without a store: %d, %v", page, e)
			}
		}
		for _, version := range []int{lowest, -1, 0, 1, highest} {
			if x, n, e := index.Find(nil, head, version); x != (api.Record{}) || n != 0 || e != api.ErrArg {
				t.Errorf("P15.8: without a store: %+v, %d, %v", x, n, e)
			}
		}
		if a, b, e := index.Bounds(nil, head); a != 0 || b != 0 || e != api.ErrArg {
			t.Errorf("P15.10: without a store: %d, %d, %v", a, b, e)
		}
	}
}

// allRefuse asks that each call is refused, whatever else is wrong with it.
func (r *rig) allRefuse(head int, why api.Errno) {
	r.Helper()
	for _, x := range append(wrongRecords, linked(1, 0, 0, 0), linked(2, 0, 0, 0), of(1, 2, 1), linked(0, 0, 0, 0)) {
		r.addsNot(head, x, why)
	}
	for _, version := range []int{lowest, -1, 0, 1, 2, 3, top, highest} {
		r.findsNot(head, version, why)
	}
	r.bounds(head, 0, 0, why)
}

// R2: a store that is not live refuses ahead of all else, also where nothing would be looked at.
func TestStoreThatIsNotLive(t *testing.T) {
	ends := map[string]func(r *rig) api.Errno{
		"without power": func(r *rig) api.Errno {
			r.d.Arm(1)
			r.d.Sync()
			return api.ErrDown
		},
		"behind a crash": func(r *rig) api.Errno {
			r.d.Crash(nil)
			return api.ErrStale
		},
		"behind another opening": func(r *rig) api.Errno {
			if _, e := file.Open(r.d); e != api.OK {
				t.Fatal(e)
			}
			return api.ErrStale
		},
		"behind a crash, without power": func(r *rig) api.Errno {
			r.d.Crash(nil)
			r.d.Arm(1)
			r.d.Sync()
			return api.ErrStale
		},
	}
	for name, end := range ends {
		for _, pages := range []int{6, 16} { // the small one is full
			r := begun(t, "R2: "+name, pages)
			r.chain(1, 0, 2)
			r.flush()
			r.chain(1, 0, 1)
			r.forge(1, nil)
			want := end(r)
			for _, head := range []int{lowest, -1, 0, 1, 2, 3, 4, 5, 6, 7, highest} {
				r.allRefuse(head, want)
			}
		}
	}
}

// A head that is no page: ErrPage, ahead of all that comes behind it; 0 and each page are none of these.
func TestHeadsThatAreNone(t *testing.T) {
	fresh := begun(t, "P15.5", 8)
	for _, head := range []int{lowest, -2, -1, 1, 2, 3, 7, 8, highest} {
		fresh.allRefuse(head, api.ErrPage)
	}
	for _, pages := range []int{6, 16} {
		r := begun(t, "P15.5", pages)
		r.chain(1, 0, 2)
		r.flush()
		r.added(3, api.Record{})
		r.added(4, api.Record{})
		for _, head := range []int{lowest, -4, -1, 1, 6, 7, 15, 16, 1<<32 + 4, highest} {
			r.allRefuse(head, api.ErrPage)
		}
		for head := 2; head < 6; head++ {
			r.bounds(head, 0, head-1, api.OK)
		}
		r.bounds(0, 0, 0, api.OK)
	}
}

// broken tells heads of a store that do not stand, and those behind which Add meets a record that does not, with a version of theirs that Find does not come to.
func broken(r *rig) (heads []int, ways [][2]int) {
	r.Helper()
	leaf := r.forge(api.KindLeaf, laid(linked(1, 0, 0, 0)))
	short := r.forge(api.KindRecord, laid(linked(1, 0, 0, 0))[:55])
	wrong := r.record(linked(2, 0, short, short))
	high := r.record(linked(2, 0, r.s.Next(), 0))
	five := r.record(linked(5, 0, leaf, leaf))
	nine := r.record(linked(9+40-1, 40, short, short))
	return []int{leaf, short, wrong, high}, [][2]int{{five, 3}, {nine, 46}}
}

// P15.5: the order of Add's refusals, each with all that come behind it.
func TestOrderOfAdd(t *testing.T) {
	for _, full := range []bool{false, true} {
		r := begun(t, "P15.5", 18)
		good := r.chain(1, 0, 2)
		heads, ways := broken(r)
		// the number of the highest version here is 5: the next one's Skip would be looked for
		last := r.record(linked(top, top-4, heads[0], heads[0]))
		if full {
			r.filler(18)
		}
		next := r.s.Next()
		all := append(heads, 0, good, last, ways[0][0], ways[1][0])
		for _, head := range all {
			for _, root := range []int{lowest, -2, -1, 1, next, next + 1, 4095, 4096, 1<<32 + 2, highest} {
				for _, count := range []int{lowest, -1, 0, 1, 4096, 4097, highest} {
					r.addsNot(head, api.Record{Version: 2, Root: root, Count: count}, api.ErrPage)
					r.addsNot(head, api.Record{Version: 1, Root: root, Count: count}, api.ErrPage)
				}
			}
			for _, c := range [][2]int{{0, 1}, {0, -1}, {0, 4096}, {0, highest}, {2, 0}, {2, -1}, {2, 4097}, {next - 1, 0}, {next - 1, lowest}, {2, highest}, {2, 1 << 32}} {
				r.addsNot(head, api.Record{Version: 2, Root: c[0], Count: c[1]}, api.ErrRecord)
				r.addsNot(head, api.Record{Version: 1, Root: c[0], Count: c[1]}, api.ErrRecord)
			}
		}
		r.addsNot(0, linked(2, 0, 0, 0), api.ErrRecord)
		r.addsNot(0, api.Record{Version: 3, First: 2, Root: 2, Count: 1}, api.ErrRecord)
		for _, head := range heads {
			r.addsNot(head, linked(1, 0, 0, 0), api.ErrCorrupt)
			r.addsNot(head, of(2, next-1, 4096), api.ErrCorrupt)
		}
		r.addsNot(last, linked(1, 0, 0, 0), api.ErrRecord)
		for _, way := range ways {
			r.addsNot(way[0], linked(1, 0, 0, 0), api.ErrCorrupt)
			r.addsNot(way[0], of(2, next-1, 4096), api.ErrCorrupt)
		}
		if full {
			r.addsNot(0, linked(1, 0, 0, 0), api.ErrFull)
			r.addsNot(good, of(2, next-1, 4096), api.ErrFull)
		} else {
			r.adds(good, of(2, next-1, 4096), api.Record{Version: 3, Prev: good, Skip: good, Root: next - 1, Count: 4096, Sum: sumOf(next - 1)})
		}
	}
}

// P15.8: the order of Find's refusals, each with all that come behind it.
func TestOrderOfFind(t *testing.T) {
	r := begun(t, "P15.8", 18)
	heads, ways := broken(r)
	for _, head := range heads {
		for _, version := range []int{-1, -2, lowest} {
			r.findsNot(head, version, api.ErrArg)
		}
		r.refused(head, api.ErrCorrupt)
	}
	for _, way := range ways {
		first, last, _ := index.Bounds(r.s, way[0])
		r.findsNot(way[0], -1, api.ErrArg)
		r.findsNot(way[0], last+1, api.ErrVersion)
		r.findsNot(way[0], highest, api.ErrVersion)
		if first == 0 {
			r.finds(way[0], 0, 1, emptyRecord(4))
		} else {
			r.findsNot(way[0], first-1, api.ErrGone)
			r.findsNot(way[0], 0, api.ErrGone)
		}
		r.findsNot(way[0], way[1], api.ErrCorrupt)
		r.finds(way[0], last, 1, r.at(way[0]))
	}
}
