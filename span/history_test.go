package span_test

import (
	"bytes"
	"fmt"
	"slices"
	"testing"

	"ledger/api"
	"ledger/span"
)

// P14.3: two trees of one map, whatever their histories, give the same bytes.
func TestTwoHistories(t *testing.T) {
	m := someMap()
	gone := []api.Key{flipped(keyM, 255), flipped(keyM, 41), keyC}
	histories := map[string]func(r *rig) int{
		"at once": func(r *rig) int { return r.grown(m) },
		"key by key": func(r *rig) (root int) {
			for _, c := range m.puts() {
				root = r.update(root, c)
			}
			return root
		},
		"from the last key on, flushed between": func(r *rig) (root int) {
			cs := m.puts()
			slices.Reverse(cs)
			for _, c := range cs {
				root = r.update(root, c)
				r.flush()
			}
			return root
		},
		"with other values and other keys that go again": func(r *rig) int {
			root := r.update(0, put(keyM, "old"), put(gone[0], "gone"), put(gone[1], "gone"), put(gone[2], "gone"))
			root = r.update(root, m.puts()...)
			return r.update(root, del(gone[0]), del(gone[1]), del(gone[2]))
		},
		"emptied and made again": func(r *rig) int {
			root := r.grown(m)
			for k := range m {
				root = r.update(root, del(k))
			}
			if root != 0 {
				r.Fatal(root)
			}
			return r.grown(m)
		},
	}
	for _, w := range []int{1, 2, 4, 32} {
		for name, history := range histories {
			r := begun(t, fmt.Sprintf("P14.3: width %d, %s", w, name), 4096, w)
			root := history(r)
			r.quiet(func() {
				for _, at := range spansOf(keyM, gone[0]) {
					r.proves(root, at[0], at[1], m.proof(w, at[0], at[1]))
				}
			})
		}
	}
}

// P14.3: one tree gives the same bytes at any later time: behind updates, flushes, a crash and another opening, with any room.
func TestLaterTimes(t *testing.T) {
	for _, w := range []int{1, 4, 32} {
		r := begun(t, fmt.Sprintf("P14.3: width %d", w), 2000, w)
		m := entries{keyA: "x", keyC: "z", keyB: "y", keyOf("11"): "w"}
		root := r.grown(m)
		spans := spansOf(keyOf("01"), keyOf("11"))
		was := map[[2]api.Key][]byte{}
		for _, at := range spans {
			raw, e := span.Prove(r.s, root, at[0], at[1])
			if e != api.OK || !bytes.Equal(raw, m.proof(w, at[0], at[1])) {
				t.Fatalf("%s: %x, %v", r.promise, raw, e)
			}
			was[at] = raw
		}
		stays := func(r *rig) {
			t.Helper()
			for _, at := range spans {
				r.proves(root, at[0], at[1], was[at])
			}
		}
		next := r.update(root, del(keyA), put(keyB, "other"), put(keyZ, "new"))
		stays(r)
		r.flush()
		stays(r)
		r.update(next, put(keyOf("0101"), "more"))
		stays(r)
		r.flush()
		r.update(root, del(keyC))
		stays(r)
		r.d.Crash(nil)
		r.refuses(root, keyA, keyZ, api.ErrStale)
		for _, room := range []int{0, 1, 4096} {
			stays(over(t, r.promise, r.d, room))
			stays(r.reopened(room))
		}
	}
}

// P14.3: power goes while a later tree is flushed: the tree that was flushed earlier gives its bytes, and the later one, made again, its own.
func TestCrashBetween(t *testing.T) {
	m := someMap()
	cs := []api.Change{del(keyM), put(keyC, "c")}
	for acts := 1; acts < 6; acts++ {
		r := begun(t, fmt.Sprintf("P14.3: power goes at the act %d", acts), 1500, 4)
		root := r.grown(m)
		r.flush()
		r.update(root, cs...)
		r.d.Arm(acts)
		if e := r.s.Flush(0); e != api.ErrDown {
			t.Fatal(e)
		}
		r.d.Crash(bytes.Repeat([]byte{15, 3, 0}, 100))
		again := over(t, r.promise, r.d, acts)
		later := again.update(root, cs...)
		for _, at := range spansOf(keyM) {
			again.proves(root, at[0], at[1], m.proof(4, at[0], at[1]))
			again.proves(later, at[0], at[1], m.behind(cs).proof(4, at[0], at[1]))
		}
	}
}

// P14.3: the width is seen, and lo and hi, and the map: another one of each is another text.
func TestOtherBytes(t *testing.T) {
	m := chapterMap()
	seen := map[string]string{}
	tell := func(name string, raw []byte) {
		t.Helper()
		if other := seen[string(raw)]; other != "" {
			t.Errorf("P14.3: %s and %s have one text", name, other)
		}
		seen[string(raw)] = name
	}
	for _, w := range []int{1, 2, 31, 32} {
		r := begun(t, "P14.3", 60, w)
		root := r.grown(m)
		raw, e := span.Prove(r.s, root, keyA, keyA)
		if e != api.OK {
			t.Fatal(e)
		}
		tell(fmt.Sprint("width ", w), raw)
	}
	r := begun(t, "P14.3", 60, 32)
	for _, val := range []string{"", "c", "cc"} {
		raw, e := span.Prove(r.s, r.update(0, put(keyA, "a"), put(keyB, val)), keyA, keyA)
		if e != api.OK {
			t.Fatal(e)
		}
		tell("B "+val, raw)
	}
	root := r.grown(m)
	for name, at := range map[string][2]api.Key{"B to Z": {keyB, keyZ}, "A to Z": {keyA, keyZ}} {
		raw, _ := span.Prove(r.s, root, at[0], at[1])
		tell(name, raw)
	}
}
