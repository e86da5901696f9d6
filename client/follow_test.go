package client_test

import (
	"bytes"
	"fmt"
	"math/rand/v2"
	"testing"

	"ledger/api"
	"ledger/client"
)

// follower is a client beside a store: it holds a root and the proofs of some keys, and never looks at the store's pages.
type follower struct {
	*rig
	promise string
	w       int
	root    api.Digest
	own     map[api.Key][]byte
}

// begins takes the proofs that the store makes of a tree.
func (f *follower) begins(page int, keys ...api.Key) {
	f.Helper()
	f.root, f.own = f.sum(page), map[api.Key][]byte{}
	for _, k := range keys {
		f.own[k] = f.raw(page, k)
	}
}

// one follows one change, by the proof for its key.
func (f *follower) one(c api.Change, raw []byte) {
	f.Helper()
	for k, own := range f.own {
		renewed, e := client.Renew(f.w, f.root, k, own, raw, c)
		if e != api.OK {
			f.Fatalf("P13.12: %s: Renew of %x behind %v: %v", f.promise, k, c, e)
		}
		f.own[k] = renewed
	}
	root, e := client.Advance(f.w, f.root, raw, c)
	if all, why := client.AdvanceAll(f.w, f.root, []api.Change{c}, [][]byte{raw}); e != api.OK || all != root || why != e {
		f.Fatalf("P13.12: %s: Advance by %v: %x, %v; AdvanceAll: %x, %v", f.promise, c, root, e, all, why)
	}
	f.root = root
}

// stands asks that the client has the root of a tree, and its proofs byte for byte, and that these say what the tree holds.
func (f *follower) stands(page int) {
	f.Helper()
	if f.root != f.sum(page) {
		f.Fatalf("P13.12: %s: the root is %x, want %x", f.promise, f.root, f.sum(page))
	}
	for k, own := range f.own {
		if want := f.raw(page, k); !bytes.Equal(own, want) {
			f.Fatalf("P13.12: %s: the proof for %x is %x, want %x", f.promise, k, own, want)
		}
		if got, e := client.Verify(f.w, f.root, k, own); !sameAnswer(got, f.answer(page, k)) || e != api.OK {
			f.Fatalf("P13.12: %s: Verify of %x: %v, %v, want %v", f.promise, k, got, e, f.answer(page, k))
		}
	}
}

// pick tells one of a list.
func pick[T any](rnd *rand.Rand, list ...T) T { return list[rnd.IntN(len(list))] }

// drawnKeys tells keys of which some are near others, one of them as near as may be.
func drawnKeys(rnd *rand.Rand, n int) (keys []api.Key) {
	for len(keys) < n {
		k := keyOf(fmt.Sprintf("%05b", rnd.IntN(32)))
		if rnd.IntN(4) == 0 {
			for i := range k {
				k[i] = byte(rnd.Uint32())
			}
		}
		if len(keys) > 0 && rnd.IntN(3) == 0 {
			k = flipped(pick(rnd, keys...), pick(rnd, 0, 1, 2, 3, 5, 8, 9, 20, 40))
		}
		if len(keys) == n-1 {
			k = flipped(keys[0], pick(rnd, 100, 254, 255))
		}
		keys = append(keys, k)
	}
	return keys
}

// drawnList tells changes of unlike keys, in any order.
func drawnList(rnd *rand.Rand, keys []api.Key, most int) (cs []api.Change) {
	seen := map[api.Key]int{}
	for range rnd.IntN(most + 1) {
		k := pick(rnd, keys...)
		if seen[k]++; seen[k] == 1 {
			cs = append(cs, pick(rnd, del(k), put(k, ""), put(k, "a"), put(k, "b"), put(k, string(text(1, 128)))))
		}
	}
	return cs
}

// P13.12: a row of commits of one change each, at all widths: the root and the proofs of keys that are there and that are not follow.
func TestFollowsEachChange(t *testing.T) {
	for seed := range uint64(32) {
		rnd := rand.New(rand.NewPCG(seed, 21))
		w := 1 + int(seed)
		keys := drawnKeys(rnd, 8)
		f := &follower{rig: begun(t, 4000, w), promise: fmt.Sprintf("width %d", w), w: w}
		page := 0
		f.begins(page, keys[0], keys[3], keys[7], flipped(keys[5], 255))
		for range 8 {
			c := pick(rnd, del(pick(rnd, keys...)), put(pick(rnd, keys...), pick(rnd, "", "a", "b")), put(pick(rnd, keys...), string(text(2, 128))))
			raw := f.raw(page, c.Key)
			page = f.update(page, c)
			f.one(c, raw)
			f.stands(page)
		}
	}
}

// P13.12: a row of commits of many changes: the root follows from the proofs of all keys that change.
func TestFollowsEachBatch(t *testing.T) {
	for seed := range uint64(32) {
		rnd := rand.New(rand.NewPCG(seed, 22))
		w := pick(rnd, 1, 1, 2, 3, 4, 8, 31, 32)
		keys := drawnKeys(rnd, 16)
		r := begun(t, 4000, w)
		page, root := 0, emptySum(w, 256)
		for range 6 {
			cs := drawnList(rnd, keys, 16)
			next, e := client.AdvanceAll(w, root, cs, r.raws(page, cs...))
			page = r.update(page, cs...)
			if next != r.sum(page) || e != api.OK {
				t.Fatalf("P13.12: seed %d, width %d: %x, %v, want %x", seed, w, next, e, r.sum(page))
			}
			root = next
		}
	}
}

// P13.12: one batch's changes, taken one behind the other in any order with renewed proofs, lead to the same root as all at once.
func TestFollowsABatchChangeByChange(t *testing.T) {
	for seed := range uint64(16) {
		rnd := rand.New(rand.NewPCG(seed, 23))
		w := pick(rnd, 1, 2, 4, 32)
		keys := drawnKeys(rnd, 8)
		f := &follower{rig: begun(t, 4000, w), promise: fmt.Sprintf("seed %d, width %d", seed, w), w: w}
		page := f.update(0, drawnList(rnd, keys, 12)...)
		cs := drawnList(rnd, keys, 8)
		f.begins(page, keys...)
		for _, c := range cs {
			f.one(c, f.own[c.Key])
		}
		f.stands(f.update(page, cs...))
	}
}

// P13.12: the proofs that layer 12 makes hold, and say what the tree holds, of keys near and far.
func TestProofsOfTreesHold(t *testing.T) {
	for seed := range uint64(32) {
		rnd := rand.New(rand.NewPCG(seed, 24))
		w := 1 + int(seed)
		keys := drawnKeys(rnd, 12)
		r := begun(t, 4000, w)
		page := r.update(r.update(0, drawnList(rnd, keys, 20)...), drawnList(rnd, keys, 20)...)
		a := ask{t, "P13.12", w, r.sum(page)}
		for _, k := range append(keys, flipped(keys[0], 7), flipped(keys[1], 254), keyZ) {
			if got, e := a.verify(k, r.raw(page, k)); !sameAnswer(got, r.answer(page, k)) || e != api.OK {
				t.Errorf("P13.12: width %d: %x: %v, %v, want %v", w, k, got, e, r.answer(page, k))
			}
		}
	}
}
