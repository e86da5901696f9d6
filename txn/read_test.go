package txn_test

import (
	"fmt"
	"slices"
	"testing"

	"ledger/api"
)

// P18.4, P18.10: reads of what was written, deleted, or neither, ahead of and behind commits beside them: the version at which the transaction began, and its own writes.
func TestReads(t *testing.T) {
	keys := []api.Key{low, keyK, keyQ, key(9), key(200), high}
	r := begun(t, "P18.4, P18.10", 400, 2, 2)
	r.commits(put(keyK, "a"), put(keyQ, ""), put(high, "z"))
	r.begin()
	look := func() {
		t.Helper()
		for _, k := range keys {
			r.reads(1, k)
			r.ranges(1, k, k)
		}
		r.all(1)
	}
	beside := func(i int) {
		t.Helper()
		r.commits(put(keyK, fmt.Sprint(i)), del(keyQ), put(key(9), "beside"), del(high), put(low, fmt.Sprint(-i)))
		look()
	}
	look()
	beside(1)
	for i, c := range []api.Change{put(keyK, "own"), del(keyQ), put(key(9), ""), del(key(200)), put(high, "z"), del(keyK), put(keyQ, "again"), del(key(9)), put(key(200), "new"), put(keyK, "a")} {
		r.write(1, c)
		look()
		beside(i)
	}
	r.commits(del(low), del(keyK), del(keyQ), del(key(9)))
	look()
	r.finishes(1, api.ErrConflict)
	r.isSerial()
}

// P18.4: a read of what the transaction wrote asks nothing: it looks at no page, and what is committed beside it is no conflict.
func TestReadOfOwnWrites(t *testing.T) {
	r := begun(t, "P18.4", 400, 2, 1)
	r.commits(put(keyK, "a"), put(keyQ, "b"))
	r.begin()
	r.write(1, put(keyK, "own"), del(keyQ), put(key(9), ""))
	before, tally := r.d.Counts(), r.l.Tally()
	for range 3 {
		r.reads(1, keyK)
		r.reads(1, keyQ)
		r.reads(1, key(9))
	}
	if r.d.Counts() != before || r.l.Tally() != tally {
		r.fails("a page was looked at")
	}
	r.commits(put(keyK, "x"), put(keyQ, "y"), put(key(9), "z"))
	r.finishes(1, api.OK)
	r.isSerial()
}

// P18.5: ends that are alike, ends that have keys and ends between keys, own puts and deletes at the ends, within and outside.
func TestRanges(t *testing.T) {
	places := []api.Key{low, key(1), key(2), {2, 31: 1}, key(3), key(4), key(5), high}
	r := begun(t, "P18.5", 2000, 1, 8)
	r.commits(put(key(2), "two"), put(key(4), "four"), put(key(3), ""), put(high, "top"))
	every := func(id int) {
		t.Helper()
		for _, lo := range places {
			for _, hi := range places {
				r.ranges(id, lo, hi)
			}
		}
	}
	r.begin()
	every(1)
	for _, c := range []api.Change{put(key(2), "own"), put(key(1), "below"), del(key(4)), del(key(5)), put(api.Key{2, 31: 1}, "near"), del(high), put(low, "bottom"), del(key(2)), put(key(4), "back")} {
		r.write(1, c)
		every(1)
	}
	r.commits(del(key(3)), put(key(5), "beside"))
	every(1)
	if list, err := r.m.Range(1, low[:], low[:]); err != nil || len(list) != 1 || string(list[0].Val) != "bottom" {
		r.fails("Range of one key = %v, %v", list, err)
	}
	r.finishes(1, api.ErrConflict)
}

// rowKey tells the key number i of a long row, with bytes of 0 or of 255 behind its number.
func rowKey(i int, tail byte) (k api.Key) {
	for j := range k {
		k[j] = tail
	}
	k[0], k[1] = byte(i>>3), byte(i<<5)|tail>>3
	return k
}

// long makes a ledger whose newest version has n keys, by finished transactions.
func long(t *testing.T, n int, tail byte) *rig {
	t.Helper()
	r := begun(t, fmt.Sprintf("P18.5: %d entries, tails %d", n, tail), 4096, 1, 64)
	for i := 0; i < n; i += 64 {
		id := r.begin()
		for j := i; j < min(n, i+64); j++ {
			r.write(id, put(rowKey(j, tail), fmt.Sprint(j)))
		}
		r.finishes(id, api.OK)
	}
	return r
}

// P18.5: ranges of as many entries as one Scan tells, of more, with own writes over them at both ends, between, and where one Scan ends and the next begins.
func TestLongRanges(t *testing.T) {
	for _, n := range []int{999, 1000, 1001, 1002, 1800} {
		for _, tail := range []byte{0, 255} {
			t.Run(fmt.Sprint(n, tail), func(t *testing.T) {
				t.Parallel()
				longRanges(t, n, tail)
			})
		}
	}
}

func longRanges(t *testing.T, n int, tail byte) {
	r := long(t, n, tail)
	at := func(i int) api.Key { return rowKey(i, tail) }
	one, two := r.begin(), r.begin()
	last := n - 1
	every := func(id int) {
		t.Helper()
		r.all(id)
		for _, ends := range [][2]int{{0, last}, {0, 999}, {0, 998}, {1, min(1000, last)}, {1, last}, {500, last}} {
			r.ranges(id, at(ends[0]), at(ends[1]))
		}
	}
	every(one)
	for _, i := range []int{0, 1, 500, 997, 998, last} {
		r.write(two, del(at(i)))
	}
	// Near ones are new keys between two of the row; some lie at the end of the first Scan.
	for _, i := range []int{0, 998, 999, 1000, last} {
		near := at(min(i, last))
		near[2] ^= 64
		r.write(two, put(near, "near"))
	}
	r.write(two, put(at(999), "own"), put(at(n), "above"))
	every(two)
	list, err := r.m.Range(two, low[:], high[:])
	if err != nil || !slices.IsSortedFunc(list, func(a, b api.Entry) int { return slices.Compare(a.Key[:], b.Key[:]) }) {
		r.fails("the list does not rise, %v", err)
	}
	three := r.begin()
	r.write(three, put(at(n+5), "phantom"))
	r.finishes(three, api.OK)
	r.finishes(two, api.ErrConflict)
	r.finishes(one, api.ErrConflict)
}

// P18.5, P18.7: a change at each place of a long span is a conflict, also beyond what one Scan tells; and none is, if all is back again.
func TestLongConflicts(t *testing.T) {
	t.Parallel()
	r := long(t, 1300, 255)
	r.promise = "P18.7"
	for _, i := range []int{0, 999, 1000, 1299} {
		k := rowKey(i, 255)
		lost, back := r.begin(), r.begin()
		r.all(lost)
		r.all(back)
		r.commits(put(k, "other"))
		r.finishes(lost, api.ErrConflict)
		r.commits(put(k, fmt.Sprint(i)))
		r.finishes(back, api.OK)
	}
}

// P18.5: two keys that follow one another, the first the last one that a Scan tells.
func TestNeighboursWhereAScanEnds(t *testing.T) {
	t.Parallel()
	r := long(t, 999, 0)
	r.promise = "P18.5"
	end := rowKey(999, 0)
	end[30], end[31] = 7, 255
	next := end
	next[30], next[31] = 8, 0
	r.commits(put(end, "end"), put(next, "next"), put(rowKey(1000, 0), "behind"))
	r.begin()
	r.all(1)
	id := r.begin()
	r.all(id)
	r.ranges(id, end, next)
	r.ranges(id, rowKey(0, 0), next)
	r.ranges(id, rowKey(0, 0), end)
	r.write(id, del(next), put(end, "own"))
	r.all(id)
	r.ranges(id, rowKey(0, 0), next)
	r.finishes(id, api.OK)
}
