package ledger_test

import (
	"bytes"
	"fmt"
	"maps"
	"testing"

	"ledger/api"
	"ledger/client"
	"ledger/span"
)

// P16.13, W2: the client and the span's check accept what Prove and Span answer under the version's root, and say what the map says; a proof is short.
func TestProofsHold(t *testing.T) {
	t.Parallel()
	for _, width := range []int{1, 2, 4, 32} {
		r := history(t, fmt.Sprintf("W2: width %d", width), begun(t, "", 100, width, 3))
		keys := []api.Key{low, keyM, keyK, keyOf("001"), keyOf("0101"), keyQ, high}
		for v := 0; v <= r.m.last(); v++ {
			root, _ := r.l.Root(v)
			for i, k := range keys {
				p, err := r.l.Prove(k[:], v)
				a, e := client.Verify(width, root, k, p)
				val, found := r.m.at(v)[k]
				if err != nil || e != api.OK || a.Found != found || string(a.Val) != val {
					r.fails("Verify(%x) at %d = %+v, %v, %v", k, v, a, e, err)
				}
				if len(p) > 35+128+32*len(r.m.at(v)) {
					r.fails("a proof of %d bytes over %d keys", len(p), len(r.m.at(v)))
				}
				for _, m := range keys[i:] {
					s, err := r.l.Span(k[:], m[:], v)
					list, e := span.Verify(width, root, k, m, s)
					if err != nil || e != api.OK || !sameEntries(list, r.m.at(v).between(k, m)) {
						r.fails("span.Verify at %d: %v, %v, %v", v, list, e, err)
					}
				}
			}
		}
	}
}

// W2: the proofs' bytes hang on the width, the map and the key alone: two ledgers with other histories, rooms and disks give the same for the same map.
func TestProofsOfTwoHistories(t *testing.T) {
	t.Parallel()
	for _, width := range []int{1, 4, 32} {
		one := history(t, "W2", begun(t, "", 100, width, 3))
		two := based(t, "W2", 90, width, 1, 77, one.m.newest())
		three := begun(t, "W2", 4096, width, 4096)
		for _, k := range one.m.newest().rising() {
			three.commits(put(k, "other"), put(flipped(k, 17), "gone"))
			three.commits(del(flipped(k, 17)), put(k, one.m.newest()[k]))
		}
		if !maps.Equal(one.m.newest(), three.m.newest()) {
			t.Fatal("the maps differ")
		}
		a, _ := one.l.Root(-1)
		for _, other := range []*rig{two, three} {
			if b, _ := other.l.Root(-1); a != b {
				t.Errorf("W2: two roots of one map at width %d", width)
			}
			for _, k := range []api.Key{low, keyOf("001"), keyK, keyQ, high} {
				p, _ := one.l.Prove(k[:], -1)
				q, _ := other.l.Prove(k[:], -1)
				s, _ := one.l.Span(k[:], high[:], -1)
				u, _ := other.l.Span(k[:], high[:], -1)
				if !bytes.Equal(p, q) || !bytes.Equal(s, u) {
					t.Errorf("W2: two proofs of one map at width %d", width)
				}
			}
		}
	}
}

// W7: from the proofs for a batch's keys under one root the client works out the root behind the batch, and renews a proof that it holds.
func TestNextRootFollows(t *testing.T) {
	t.Parallel()
	for _, width := range []int{1, 4, 32} {
		r := history(t, fmt.Sprintf("W7: width %d", width), begun(t, "", 400, width, 3))
		held := []api.Key{keyK, keyM, high, low}
		for i, cs := range [][]api.Change{{put(keyK, "new")}, {del(keyK)}, {del(keyK)}, {put(keyQ, ""), put(keyOf("111"), "x"), del(high)}, {del(keyQ), del(keyOf("111")), del(keyOf("0101"))}, {put(low, "one")}} {
			root, _ := r.l.Root(-1)
			var proofs [][]byte
			for _, c := range cs {
				p, err := r.l.Prove(c.Key[:], -1)
				if err != nil {
					t.Fatal(err)
				}
				proofs = append(proofs, p)
			}
			mine := map[api.Key][]byte{}
			for _, k := range held {
				mine[k], _ = r.l.Prove(k[:], -1)
			}
			next, e := client.AdvanceAll(width, root, cs, proofs)
			r.commits(cs...)
			if now, err := r.l.Root(-1); e != api.OK || err != nil || next != now {
				r.fails("batch %d: AdvanceAll = %x, %v, Root %x, %v", i, next, e, now, err)
			}
			if len(cs) > 1 {
				continue
			}
			for _, k := range held {
				p, e := client.Renew(width, root, k, mine[k], proofs[0], cs[0])
				if q, err := r.l.Prove(k[:], -1); e != api.OK || err != nil || !bytes.Equal(p, q) {
					r.fails("batch %d: Renew(%x) = %x, %v, Prove %x, %v", i, k, p, e, q, err)
				}
			}
		}
	}
}

// DOC examples 7 and 8: what the client says of those proofs.
func TestExamplesOfTheClient(t *testing.T) {
	r := whole5(t)
	p, _ := r.l.Prove(keyK[:], 2)
	two, _ := r.l.Root(2)
	three, _ := r.l.Root(3)
	if a, e := client.Verify(4, two, keyK, p); !a.Found || string(a.Val) != "a" || e != api.OK {
		r.fails("DOC example 7: %+v, %v", a, e)
	}
	if _, e := client.Verify(4, three, keyK, p); e != api.ErrRoot {
		r.fails("DOC example 7: %v", e)
	}
	q, _ := r.l.Prove(keyK[:], 3)
	if a, e := client.Verify(4, three, keyK, q); a.Found || e != api.OK {
		r.fails("DOC example 7: %+v, %v", a, e)
	}
	if next, e := client.Advance(4, two, p, del(keyK)); next != three || e != api.OK {
		r.fails("DOC example 8: %x, %v", next, e)
	}
}
