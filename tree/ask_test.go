package tree_test

import (
	"fmt"
	"testing"

	"ledger/api"
)

// P10.6: the value at the end of the path, if the leaf there is the key's own; an empty one is a value too.
func TestGet(t *testing.T) {
	for _, n := range []int{0, 1, 128} {
		r := begun(t, fmt.Sprintf("P10.6: %d bytes", n), 600, 4)
		val := string(text(9, n))
		lone := r.updates(0, 2, 1, put(keyB, val))
		r.gets(lone, keyB, val)
		root, _ := r.asRead(lone, put(keyOf("00"), "0"), put(keyOf("001"), "1"))
		r.gets(root, keyB, val)
		r.gets(root, keyOf("001"), "1")
		for bit := range 256 {
			r.getsNot(lone, flipped(keyB, bit), api.OK) // the path ends at B's leaf
			if bit > 0 {
				r.getsNot(root, flipped(keyB, bit), api.OK)
			}
		}
		r.getsNot(root, keyOf("01"), api.OK) // at a page 0
		r.getsNot(0, keyB, api.OK)
	}
}

// P10.7, P10.8: of no page, of a leaf, of a branch with two children and with one.
func TestSumAndCount(t *testing.T) {
	for _, w := range []int{1, 2, 4, 27, 31, 32} {
		r := begun(t, fmt.Sprintf("P10.7, P10.8: width %d", w), 60, w)
		r.sums(0, emptySum(w, 256))
		r.counts(0, 0)
		lone := r.updates(0, 2, 1, put(keyB, ""))
		r.sums(lone, loneSum(w, keyB, "", 256))
		r.counts(lone, 1)
		two := r.updates(lone, 4, 2, put(keyK, "k"))
		r.sums(two, pairSum(w, loneSum(w, keyK, "k", 255), loneSum(w, keyB, "", 255)))
		r.counts(two, 2)
		right := pairSum(w, loneSum(w, keyB, "", 254), loneSum(w, keyOf("11"), "", 254))
		half := r.updates(lone, 7, 3, put(keyOf("11"), ""))
		r.sums(half, pairSum(w, emptySum(w, 255), right))
		r.counts(half, 2)
		left := pairSum(w, loneSum(w, keyK, "", 254), loneSum(w, keyOf("01"), "", 254))
		half = r.updates(0, 11, 4, put(keyK, ""), put(keyOf("01"), ""))
		r.sums(half, pairSum(w, left, emptySum(w, 255)))
		r.counts(half, 2)
	}
}

// P10.19: branches that lead to one another, or to themselves, lead nobody on for ever.
func TestRingsEnd(t *testing.T) {
	for _, length := range []int{1, 2, 3, 10, 300} {
		r := begun(t, fmt.Sprintf("P10.19: a ring of %d", length), 400, 4)
		first := r.s.Next()
		for i := range length {
			r.branch(first+(i+1)%length, 0, 2, 0)
		}
		r.unstaged(func() {
			for page := first; page < r.s.Next(); page++ {
				r.getsNot(page, keyK, api.ErrCorrupt)
				r.getsNot(page, keyB, api.OK)
				r.counts(page, 2)
			}
			for _, page := range []int{first, r.s.Next() - 1} {
				r.refuses(page, api.ErrCorrupt, puts(0, 4096)...)
				r.refuses(page, api.ErrCorrupt, del(keyC), put(keyB, "b"))
			}
		})
	}
}
