package span_test

import (
	"fmt"
	"testing"

	"ledger/api"
	"ledger/file"
	"ledger/span"
)

// roots tells numbers around the edges: those that may be a root in a store whose Next is this one, and those that may not.
func roots(next int) (right, wrong []int) {
	return []int{0, 2, 3, next - 1}, []int{lowest, -4096, -2, -1, 1, next, next + 1, 4095, 4096, highest}
}

// crossed tells spans whose low end is above the high one, each other way round.
func crossed() [][2]api.Key {
	return [][2]api.Key{{keyB, keyA}, {keyC, keyA}, {keyZ, keyA}, {keyZ, moved(keyZ, -1)}, {keyB, moved(keyB, -1)}, {flipped(keyM, 248), keyM}, {moved(keyM, 1), keyM}}
}

// P14.2: a nil store is told ahead of all else.
func TestNilStore(t *testing.T) {
	right, wrong := roots(5)
	for _, root := range append(right, wrong...) {
		for _, at := range [][2]api.Key{{keyA, keyZ}, {keyA, keyA}, {keyB, keyA}} {
			if raw, e := span.Prove(nil, root, at[0], at[1]); raw != nil || e != api.ErrArg {
				t.Errorf("P14.2: of no store: Prove(%d) = %x, %v", root, raw, e)
			}
		}
	}
}

// P14.2: a store that is not live is told ahead of the root, the span and the pages, of the empty tree too.
func TestStoreThatIsNotLive(t *testing.T) {
	for _, c := range []struct {
		name string
		kill func(r *rig)
		why  api.Errno
	}{
		{"crashed", func(r *rig) { r.d.Crash(nil) }, api.ErrStale},
		{"opened anew", func(r *rig) { file.Open(r.d) }, api.ErrStale},
		{"without power", func(r *rig) { r.d.Arm(1); r.s.Flush(0) }, api.ErrDown},
		{"claimed, then without power", func(r *rig) { r.d.Arm(1); r.s.Flush(0); r.d.Claim() }, api.ErrStale},
	} {
		r := begun(t, "P14.2: "+c.name, 40, 4)
		m := chapterMap()
		root := r.grown(m)
		r.forge(api.KindRecord, nil)
		r.proves(root, keyA, keyZ, m.proof(4, keyA, keyZ))
		c.kill(r)
		loads := r.loads()
		right, wrong := roots(r.s.Next())
		for _, root := range append(append(right, wrong...), root) {
			for _, at := range append(crossed(), [2]api.Key{keyA, keyZ}, [2]api.Key{keyB, keyB}) {
				r.refuses(root, at[0], at[1], c.why)
			}
		}
		if r.loads() != loads {
			t.Errorf("%s: a page was looked at", r.promise)
		}
	}
}

// P14.2: which roots are refused, ahead of the span and of any page.
func TestRoots(t *testing.T) {
	r := begun(t, "", 40, 4)
	m := chapterMap()
	root := r.grown(m)
	loads := r.loads()
	right, wrong := roots(r.s.Next())
	for _, n := range wrong {
		r.promise = fmt.Sprintf("P14.2: root %d", n)
		for _, at := range append(crossed(), [2]api.Key{keyA, keyZ}, [2]api.Key{keyB, keyB}) {
			r.refuses(n, at[0], at[1], api.ErrPage)
		}
	}
	for _, n := range right {
		r.promise = fmt.Sprintf("P14.2: root %d", n)
		for _, at := range crossed() {
			r.refuses(n, at[0], at[1], api.ErrRange)
		}
	}
	if r.loads() != loads {
		t.Errorf("P14.2: a page was looked at")
	}
	if root != r.s.Next()-1 {
		t.Fatal(root)
	}
	r.promise = "P14.2"
	r.proves(0, keyA, keyZ, noneText())
	r.proves(2, keyA, keyZ, loneText(keyA, "a"))
	r.proves(3, keyA, keyZ, loneText(keyB, "b"))
	r.proves(root, keyA, keyZ, m.proof(4, keyA, keyZ))
	// Next grows: what was no root is one now, of a page that is no node; and shrinks again.
	next := r.s.Next()
	r.forge(api.KindRecord, nil)
	r.refuses(next, keyA, keyZ, api.ErrCorrupt)
	r.refuses(next, keyB, keyA, api.ErrRange)
	r.refuses(next+1, keyA, keyZ, api.ErrPage)
	r.rewind(next)
	r.refuses(next, keyA, keyZ, api.ErrPage)
	// Flushed and opened again Next is the mark: the same holds.
	r.flush()
	again := r.reopened(0)
	again.proves(next-1, keyA, keyZ, m.proof(4, keyA, keyZ))
	again.refuses(next, keyA, keyZ, api.ErrPage)
	again.refuses(1, keyA, keyZ, api.ErrPage)
}

// P14.2: a page that lies on the disk above the mark is no root.
func TestPageAboveTheMark(t *testing.T) {
	r := begun(t, "P14.2: above the mark", 40, 4)
	root := r.update(0, put(keyA, "a"))
	r.flush()
	next := r.s.Next()
	r.update(root, put(keyB, "b"))
	r.d.Arm(3) // the two pages are written, the sync is not done
	if e := r.s.Flush(0); e != api.ErrDown {
		t.Fatal(e)
	}
	r.d.Crash([]byte{15, 15})
	again := over(t, r.promise, r.d, 4)
	if again.s.Next() != next {
		t.Fatal(again.s.Next(), next)
	}
	again.refuses(next, keyA, keyZ, api.ErrPage)
	again.refuses(next+1, keyA, keyZ, api.ErrPage)
	again.proves(root, keyA, keyZ, loneText(keyA, "a"))
}

// P14.2: lo above hi, where they part at each of the bits; the same key twice is a span.
func TestCrossedSpans(t *testing.T) {
	r := begun(t, "P14.2", 40, 4)
	m := chapterMap()
	root := r.grown(m)
	for bit := range 256 {
		lo, hi := keyM, flipped(keyM, bit)
		if bitsOf(lo) > bitsOf(hi) {
			lo, hi = hi, lo
		}
		r.proves(root, lo, hi, m.proof(4, lo, hi))
		r.refuses(root, hi, lo, api.ErrRange)
		r.refuses(0, hi, lo, api.ErrRange)
	}
	for _, k := range []api.Key{keyA, keyC, keyM, keyB, keyZ} {
		r.proves(root, k, k, m.proof(4, k, k))
	}
}

// R4: a refused call's bytes are nothing at all, whatever was read ahead of the refusal.
func TestRefusedProofIsNothing(t *testing.T) {
	r := begun(t, "R4", 40, 4)
	a, none := r.leaf(keyA, "a"), r.forge(api.KindRecord, nil)
	root := r.branch(a, none, 1, 1)
	if raw, e := span.Prove(r.s, root, keyA, keyZ); raw != nil || e != api.ErrCorrupt {
		t.Errorf("R4: %x, %v", raw, e)
	}
}
