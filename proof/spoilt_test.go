package proof_test

import (
	"fmt"
	"testing"

	"ledger/api"
	"ledger/proof"
)

// made makes three trees of some keys on the disk, each out of the one before, and tells their roots and their maps.
func made(t *testing.T, promise string, width int) (*rig, []int, []entries) {
	t.Helper()
	r := begun(t, promise, 700, width)
	m := entries{keyOf("0000"): "a", keyOf("0001"): "b", keyOf("0010"): "c", keyOf("01"): "d", keyOf("1"): "", keyOf("111111"): "f"}
	all, roots := []entries{m}, []int{r.grown(m)}
	for _, cs := range [][]api.Change{
		{put(keyOf("0001"), "B"), del(keyOf("111111")), put(keyOf("0011"), "g")},
		{del(keyOf("0000")), del(keyOf("0001")), put(keyOf("1001"), "h"), put(keyOf("1"), "E")},
	} {
		last := len(all) - 1
		all = append(all, all[last].behind(cs))
		roots = append(roots, r.update(roots[last], cs...))
	}
	r.flush()
	return r, roots, all
}

// askedOf tells keys that are there, and some that are not.
func askedOf(all []entries) []api.Key {
	keys := entries{keyC: "", keyOf("00011"): "", keyOf("0101"): "", keyOf("0111"): "", keyOf("00101"): "", keyOf("101"): "", keyZ: ""}
	for _, m := range all {
		keys = keys.behind(m.puts())
	}
	return keys.rising()
}

// P12.1: the path is all that is looked at: each page in turn is spoilt on the disk, and just the keys whose path goes over it are refused.
func TestSpoiltPages(t *testing.T) {
	whole, roots, all := made(t, "", 4)
	met, past := 0, 0
	for page := 2; page < whole.s.Next(); page++ {
		r := whole.reopened(0)
		r.promise = fmt.Sprintf("P12.1: page %d is spoilt", page)
		r.d.Flip(page, 8*page%2048, 1)
		for i, root := range roots {
			for _, k := range askedOf(all) {
				x := r.asRead(root, k)
				if whole.readPath(root, k).looksAt(page) {
					met++
					r.refuses(root, k, api.ErrCorrupt)
				} else {
					past++
					r.proves(root, k, all[i].proof(4, k))
				}
				if x.broken != whole.readPath(root, k).looksAt(page) {
					t.Errorf("%s: broken %t", r.promise, x.broken)
				}
			}
		}
	}
	if met < 50 || past < 200 {
		t.Errorf("P12.1: %d paths met what is spoilt, %d did not: the trees say too little", met, past)
	}
}

// R6: the cache's room is not seen, nor whether pages are staged, clean or on the disk.
func TestRoomIsNotSeen(t *testing.T) {
	whole, roots, all := made(t, "R6", 4)
	for _, room := range []int{0, 1, 2, 5, 4096} {
		r := whole.reopened(room)
		r.quiet(func() {
			for i, root := range roots {
				for _, k := range askedOf(all) {
					r.proves(root, k, all[i].proof(4, k))
				}
			}
		})
	}
}

// A page that is spoilt, but clean in the cache, is as it was.
func TestSpoiltBehindTheCache(t *testing.T) {
	whole, roots, all := made(t, "P12.4: clean pages", 4)
	r := whole.reopened(4096)
	for i, root := range roots {
		for _, k := range askedOf(all) {
			r.proves(root, k, all[i].proof(4, k))
		}
	}
	for page := 2; page < r.s.Next(); page++ {
		r.d.Flip(page, 300, 5)
	}
	for i, root := range roots {
		for _, k := range askedOf(all) {
			r.proves(root, k, all[i].proof(4, k))
		}
	}
	spoilt := over(t, "P12.1: spoilt pages", r.d, 4096)
	for _, root := range roots {
		spoilt.refuses(root, keyK, api.ErrCorrupt)
	}
	spoilt.proves(0, keyK, api.Proof{})
}

// P12.1: nothing is staged, written or synced, of staged pages as of those on the disk, of proofs that are made as of those that are refused.
func TestNothingIsWritten(t *testing.T) {
	r, roots, all := made(t, "P12.1", 4)
	staged := r.update(roots[2], put(keyC, "new"))
	record := r.forge(api.KindRecord, nil)
	r.quiet(func() {
		for _, root := range append(roots, 0, staged, record, 1, -1, highest) {
			for _, k := range askedOf(all) {
				proof.Prove(r.s, root, k)
			}
		}
	})
	again := r.reopened(3)
	before := again.d.Counts()
	for _, root := range roots {
		proof.Prove(again.s, root, keyC)
	}
	now := again.d.Counts()
	now.Reads = before.Reads
	if now != before {
		t.Errorf("P12.1: counts are %+v, from %+v", now, before)
	}
}
