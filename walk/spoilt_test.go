package walk_test

import (
	"fmt"
	"slices"
	"testing"

	"ledger/api"
	"ledger/walk"
)

// grown makes three trees of some keys on the disk, each out of the one before, and tells their roots and their maps.
func grown(t *testing.T, promise string) (*rig, []int, []entries) {
	t.Helper()
	r := begun(t, promise, 700)
	m := entries{keyOf("0000"): "a", keyOf("0001"): "b", keyOf("0010"): "c", keyOf("01"): "d", keyOf("1"): "e", keyOf("111111"): "f"}
	made, roots := []entries{m}, []int{r.update(0, m.puts()...)}
	for _, cs := range [][]api.Change{
		{put(keyOf("0001"), "B"), del(keyOf("111111")), put(keyOf("0011"), "g")},
		{del(keyOf("0000")), del(keyOf("0001")), put(keyOf("1001"), "h"), put(keyOf("1"), "E")},
	} {
		last := len(made) - 1
		made = append(made, made[last].behind(cs))
		roots = append(roots, r.update(roots[last], cs...))
	}
	r.flush()
	return r, roots, made
}

// askAll asks of all calls over some trees what the plain reading tells, and that they are refused just where it meets a page that is spoilt.
func (r *rig) askAll(whole *rig, roots []int, keys []api.Key, page int) {
	r.Helper()
	meets := func(x, sound *reading) {
		r.Helper()
		if x.broken != slices.Contains(sound.looked, page) {
			r.Errorf("%s: broken %t, but %v are looked at", r.promise, x.broken, sound.looked)
		}
	}
	for n, root := range roots {
		for i, k := range keys {
			meets(r.asReadFrom(root, k), whole.readFrom(root, k, keyZ, highest))
			rank, _ := whole.readRank(root, k)
			meets(r.asReadRank(root, k), rank)
			for _, hi := range keys[i:] {
				for _, limit := range []int{0, 1, 3, 1000} {
					meets(r.asReadScan(root, k, hi, limit), whole.readFrom(root, k, hi, limit+1))
				}
			}
			at, _ := whole.readAt(root, i)
			meets(r.asReadAt(root, i), at)
		}
		for _, other := range append(roots[n:], 0) {
			for _, pair := range [][2]int{{root, other}, {other, root}} {
				sound, _ := whole.readBetween(pair[0], pair[1])
				x, _ := r.asReadBetween(pair[0], pair[1])
				meets(x, sound)
			}
		}
	}
}

// Which pages are looked at, and which are not: each page in turn is spoilt on the disk, and a call is refused just where it meets it.
func TestSpoiltPages(t *testing.T) {
	whole, roots, made := grown(t, "")
	keys := []api.Key{keyA, keyC, keyOf("00011"), keyOf("0101"), keyOf("0111"), keyZ}
	for k := range made[0] {
		keys = append(keys, k)
	}
	slices.SortFunc(keys, func(a, b api.Key) int { return slices.Compare(a[:], b[:]) })
	for page := 2; page < whole.s.Next(); page++ {
		r := whole.reopened(0)
		r.promise = fmt.Sprintf("P11.2, P11.6, P11.8, P11.9, P11.10: page %d is spoilt", page)
		r.d.Flip(page, 8*page%2048, 1)
		r.askAll(whole, roots, keys, page)
	}
}

// P11.8: pages on the disk are read once each: hits and misses together are what is looked at, whatever the room.
func TestRoomIsNotSeen(t *testing.T) {
	whole, roots, made := grown(t, "R6")
	for _, room := range []int{0, 1, 2, 5, 4096} {
		r := whole.reopened(room)
		for i, a := range roots {
			r.asReadFrom(a, keyOf("0001"))
			r.asReadScan(a, keyC, keyOf("11"), 3)
			r.asReadRank(a, keyOf("01"))
			r.asReadAt(a, 2)
			for j, b := range roots {
				r.asReadBetween(a, b)
				r.differs(a, b, api.OK, made[i].to(made[j])...)
			}
		}
		reads := r.d.Counts().Reads
		before := r.s.Tally()
		walk.Between(r.s, roots[0], roots[2])
		after := r.s.Tally()
		if r.d.Counts().Reads-reads != after.Misses-before.Misses {
			t.Errorf("P11.8: room %d: %d reads for %d misses", room, r.d.Counts().Reads-reads, after.Misses-before.Misses)
		}
	}
}

// A page that is spoilt, but clean in the cache, is as it was.
func TestSpoiltBehindTheCache(t *testing.T) {
	whole, roots, made := grown(t, "P11.2")
	r := whole.reopened(4096)
	for _, root := range roots {
		given(walk.From(r.s, root, keyA))
	}
	for page := 2; page < r.s.Next(); page++ {
		r.d.Flip(page, 300, 5)
	}
	for i, root := range roots {
		if list, e := given(walk.From(r.s, root, keyA)); told(list) != told(made[i].between(keyA, keyZ)) || e != api.OK {
			t.Errorf("P11.2: root %d: %s, %v", root, told(list), e)
		}
	}
	spoilt := over(t, "P11.2", r.d, 4096)
	for _, root := range roots {
		spoilt.refused(root, api.ErrCorrupt)
	}
}
