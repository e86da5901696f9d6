package proof_test

import (
	"fmt"
	"slices"
	"testing"

	"ledger/api"
	"ledger/proof"
)

// P12.4: two trees of one map, whatever their histories, give the same proofs.
func TestTwoHistories(t *testing.T) {
	base := keyOf("0110100110010110")
	m := entries{base: "a", flipped(base, 0): "b", flipped(base, 3): "", flipped(base, 9): "d", flipped(base, 40): string(text(1, 128)), keyK: "k", keyB: "y"}
	asked := append(m.rising(), keyC, keyZ, flipped(base, 1), flipped(base, 41), flipped(base, 254), flipped(base, 255))
	histories := map[string]func(r *rig) int{
		"at once": func(r *rig) int { return r.grown(m) },
		"key by key": func(r *rig) (root int) {
			for _, c := range m.puts() {
				root = r.update(root, c)
			}
			return root
		},
		"from the last key on, flushed between": func(r *rig) (root int) {
			cs := m.puts()
			slices.Reverse(cs)
			for _, c := range cs {
				root = r.update(root, c)
				r.flush()
			}
			return root
		},
		"with other values and other keys that go again": func(r *rig) int {
			root := r.update(0, put(base, "old"), put(flipped(base, 255), "gone"), put(flipped(base, 41), "gone"), put(keyZ, "gone"))
			root = r.update(root, m.puts()...)
			return r.update(root, del(flipped(base, 255)), del(flipped(base, 41)), del(keyZ))
		},
		"emptied and made again": func(r *rig) int {
			root := r.grown(m)
			for k := range m {
				root = r.update(root, del(k))
			}
			if root != 0 {
				r.Fatal(root)
			}
			return r.grown(m)
		},
	}
	for _, w := range []int{1, 2, 4, 32} {
		for name, history := range histories {
			r := begun(t, fmt.Sprintf("P12.4: width %d, %s", w, name), 4096, w)
			root := history(r)
			r.quiet(func() {
				for _, k := range asked {
					r.proves(root, k, m.proof(w, k))
				}
			})
		}
	}
}

// P12.4: one tree gives the same proofs at any later time: behind updates, flushes, a crash and another opening.
func TestLaterTimes(t *testing.T) {
	for _, w := range []int{1, 4, 32} {
		r := begun(t, fmt.Sprintf("P12.4: width %d", w), 2000, w)
		m := entries{keyK: "x", keyC: "z", keyB: "y", keyOf("11"): "w"}
		root := r.grown(m)
		asked := append(m.rising(), keyZ, keyOf("01"), flipped(keyK, 254), flipped(keyB, 255))
		was := map[api.Key]api.Proof{}
		for _, k := range asked {
			p, e := proof.Prove(r.s, root, k)
			if e != api.OK || !same(p, m.proof(w, k)) {
				t.Fatalf("%s: %s, %v", r.promise, told(p), e)
			}
			was[k] = p
		}
		stays := func(r *rig) {
			t.Helper()
			for _, k := range asked {
				r.proves(root, k, was[k])
			}
		}
		next := r.update(root, del(keyK), put(keyB, "other"), put(keyZ, "new"))
		stays(r)
		r.flush()
		stays(r)
		r.update(next, put(keyOf("0101"), "more"))
		stays(r)
		r.flush()
		r.update(root, del(keyC))
		stays(r)
		r.d.Crash(nil)
		r.refuses(root, keyK, api.ErrStale)
		for _, room := range []int{0, 1, 4096} {
			stays(over(t, r.promise, r.d, room))
			stays(r.reopened(room))
		}
	}
}
