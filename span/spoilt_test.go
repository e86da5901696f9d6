package span_test

import (
	"fmt"
	"testing"

	"ledger/api"
	"ledger/span"
)

// made makes three trees of some keys on the disk, each out of the one before, and tells their roots and their maps.
func made(t *testing.T, promise string, width int) (*rig, []int, []entries) {
	t.Helper()
	r := begun(t, promise, 700, width)
	m := entries{keyOf("0000"): "a", keyOf("0001"): "b", keyOf("0010"): "c", keyOf("01"): "d", keyOf("1"): "", keyOf("111111"): "f"}
	all, roots := []entries{m}, []int{r.grown(m)}
	for _, cs := range [][]api.Change{
		{put(keyOf("0001"), "B"), del(keyOf("111111")), put(keyOf("0011"), "g")},
		{del(keyOf("0000")), del(keyOf("0001")), put(keyOf("1001"), "h"), put(keyOf("1"), "E")},
	} {
		last := len(all) - 1
		all = append(all, all[last].behind(cs))
		roots = append(roots, r.update(roots[last], cs...))
	}
	r.flush()
	return r, roots, all
}

// askedOf tells the spans that the trees of made are asked for.
func askedOf() (all [][2]api.Key) {
	ends := []string{"", "0001", "00011", "0010", "0011", "01", "0111", "1", "1001", "101", "111111"}
	for i, lo := range ends {
		for _, hi := range ends[i:] {
			all = append(all, [2]api.Key{keyOf(lo), keyOf(hi)})
		}
	}
	return append(all, [2]api.Key{keyA, keyZ}, [2]api.Key{keyZ, keyZ})
}

// P14.2: the pages at touched places are all that is looked at: each page in turn is spoilt on the disk, and just the spans that touch it are refused.
func TestSpoiltPages(t *testing.T) {
	whole, roots, all := made(t, "", 4)
	met, past := 0, 0
	for page := 2; page < whole.s.Next(); page++ {
		r := whole.reopened(0)
		r.d.Flip(page, 8*page%2048, 1)
		for i, root := range roots {
			for _, at := range askedOf() {
				r.promise = fmt.Sprintf("P14.2: page %d is spoilt", page)
				whole.promise = "P14.2: nothing is spoilt"
				looks := whole.asRead(root, at[0], at[1]).looksAt(page)
				x := r.asRead(root, at[0], at[1])
				if x.broken != looks {
					t.Errorf("%s: broken %t", r.promise, x.broken)
				}
				if looks {
					met++
					r.refuses(root, at[0], at[1], api.ErrCorrupt)
				} else {
					past++
					r.proves(root, at[0], at[1], all[i].proof(4, at[0], at[1]))
				}
			}
		}
	}
	if met < 300 || past < 1000 {
		t.Errorf("P14.2: %d spans met what is spoilt, %d did not: the trees say too little", met, past)
	}
}

// R6: the cache's room is not seen, nor whether pages are staged, clean or on the disk.
func TestRoomIsNotSeen(t *testing.T) {
	whole, roots, all := made(t, "R6", 4)
	for _, room := range []int{0, 1, 2, 5, 4096} {
		r := whole.reopened(room)
		r.quiet(func() {
			for i, root := range roots {
				for _, at := range askedOf() {
					r.proves(root, at[0], at[1], all[i].proof(4, at[0], at[1]))
				}
			}
		})
	}
}

// A page that is spoilt, but clean in the cache, is as it was.
func TestSpoiltBehindTheCache(t *testing.T) {
	whole, roots, all := made(t, "P14.3: clean pages", 4)
	r := whole.reopened(4096)
	for i, root := range roots {
		r.proves(root, keyA, keyZ, all[i].proof(4, keyA, keyZ))
	}
	for page := 2; page < r.s.Next(); page++ {
		r.d.Flip(page, 300, 5)
	}
	for i, root := range roots {
		for _, at := range askedOf() {
			r.proves(root, at[0], at[1], all[i].proof(4, at[0], at[1]))
		}
	}
	spoilt := over(t, "P14.2: spoilt pages", r.d, 4096)
	for _, root := range roots {
		spoilt.refuses(root, keyA, keyA, api.ErrCorrupt)
		spoilt.refuses(root, keyB, keyA, api.ErrRange)
	}
	spoilt.proves(0, keyA, keyZ, noneText())
}

// P14.2: nothing is staged, written or synced, of staged pages as of those on the disk, of proofs that are made as of those that are refused.
func TestNothingIsWritten(t *testing.T) {
	r, roots, _ := made(t, "P14.2", 4)
	staged := r.update(roots[2], put(keyC, "new"))
	record := r.forge(api.KindRecord, nil)
	r.quiet(func() {
		for _, root := range append(roots, 0, staged, record, 1, -1, highest) {
			for _, at := range askedOf() {
				span.Prove(r.s, root, at[0], at[1])
				span.Prove(r.s, root, at[1], at[0])
			}
		}
	})
	again := r.reopened(3)
	before := again.d.Counts()
	for _, root := range roots {
		span.Prove(again.s, root, keyA, keyZ)
	}
	now := again.d.Counts()
	now.Reads = before.Reads
	if now != before {
		t.Errorf("P14.2: counts are %+v, from %+v", now, before)
	}
}
