package proof_test

import (
	"fmt"
	"testing"

	"ledger/api"
	"ledger/file"
	"ledger/proof"
)

// roots tells numbers around the edges: those that may be a root in a store whose Next is this one, and those that may not.
func roots(next int) (right, wrong []int) {
	return []int{0, 2, 3, next - 1}, []int{lowest, -4096, -2, -1, 1, next, next + 1, 4095, 4096, highest}
}

// P12.1: a nil store is told ahead of all else.
func TestNilStore(t *testing.T) {
	right, wrong := roots(5)
	for _, root := range append(right, wrong...) {
		for _, k := range []api.Key{keyK, keyZ} {
			if p, e := proof.Prove(nil, root, k); !same(p, api.Proof{}) || e != api.ErrArg {
				t.Errorf("P12.1: of no store: Prove(%d) = %s, %v", root, told(p), e)
			}
		}
	}
}

// P12.1: a store that is not live is told ahead of the root and of the pages, of the empty tree too.
func TestStoreThatIsNotLive(t *testing.T) {
	for _, c := range []struct {
		name string
		kill func(r *rig)
		why  api.Errno
	}{
		{"crashed", func(r *rig) { r.d.Crash(nil) }, api.ErrStale},
		{"opened anew", func(r *rig) { file.Open(r.d) }, api.ErrStale},
		{"without power", func(r *rig) { r.d.Arm(1); r.s.Flush(0) }, api.ErrDown},
		{"claimed, then without power", func(r *rig) { r.d.Arm(1); r.s.Flush(0); r.d.Claim() }, api.ErrStale},
	} {
		r := begun(t, "P12.1: "+c.name, 40, 4)
		root := r.update(0, put(keyK, "x"), put(keyB, "y"))
		r.forge(api.KindRecord, nil)
		r.proves(root, keyK, there("x", []int{255}, loneSum(4, keyB, "y", 255)))
		c.kill(r)
		loads := r.loads()
		right, wrong := roots(r.s.Next())
		for _, root := range append(append(right, wrong...), root) {
			r.refuses(root, keyK, c.why)
			r.refuses(root, keyZ, c.why)
		}
		if r.loads() != loads {
			t.Errorf("%s: a page was looked at", r.promise)
		}
	}
}

// P12.1: which roots are refused, ahead of any page.
func TestRoots(t *testing.T) {
	r := begun(t, "", 40, 4)
	root := r.update(0, put(keyK, "x"), put(keyB, "y"))
	loads := r.loads()
	right, wrong := roots(r.s.Next())
	for _, n := range wrong {
		r.promise = fmt.Sprintf("P12.1: root %d", n)
		r.refuses(n, keyK, api.ErrPage)
		r.refuses(n, keyB, api.ErrPage)
		r.refuses(n, keyZ, api.ErrPage)
	}
	if r.loads() != loads {
		t.Errorf("P12.1: a page was looked at")
	}
	for _, n := range right {
		r.promise = fmt.Sprintf("P12.1: root %d", n)
		if p, e := proof.Prove(r.s, n, keyK); e != api.OK {
			t.Errorf("%s: %s, %v", r.promise, told(p), e)
		}
	}
	if root != r.s.Next()-1 {
		t.Fatal(root)
	}
	r.promise = "P12.1"
	r.proves(0, keyK, api.Proof{})
	r.proves(2, keyK, there("x", nil))
	r.proves(3, keyB, there("y", nil))
	r.proves(root, keyK, there("x", []int{255}, loneSum(4, keyB, "y", 255)))
	// Next grows: what was no root is one now, of a page that is no node; and shrinks again.
	next := r.s.Next()
	r.forge(api.KindRecord, nil)
	r.refuses(next, keyK, api.ErrCorrupt)
	r.refuses(next+1, keyK, api.ErrPage)
	r.rewind(next)
	r.refuses(next, keyK, api.ErrPage)
	// Flushed and opened again Next is the mark: the same holds.
	r.flush()
	again := r.reopened(0)
	again.proves(next-1, keyK, there("x", []int{255}, loneSum(4, keyB, "y", 255)))
	again.refuses(next, keyK, api.ErrPage)
	again.refuses(1, keyK, api.ErrPage)
}

// P12.1: a page that lies on the disk above the mark is no root.
func TestPageAboveTheMark(t *testing.T) {
	r := begun(t, "P12.1: above the mark", 40, 4)
	root := r.update(0, put(keyK, "x"))
	r.flush()
	next := r.s.Next()
	r.update(root, put(keyB, "y"))
	r.d.Arm(3) // the two pages are written, the sync is not done
	if e := r.s.Flush(0); e != api.ErrDown {
		t.Fatal(e)
	}
	r.d.Crash([]byte{15, 15})
	again := over(t, r.promise, r.d, 4)
	if again.s.Next() != next {
		t.Fatal(again.s.Next(), next)
	}
	again.refuses(next, keyB, api.ErrPage)
	again.refuses(next+1, keyB, api.ErrPage)
	again.proves(root, keyB, notThere([]int{255}, loneSum(4, keyK, "x", 255)))
}

// R4: a refused call's proof is nothing at all, whatever the path has shown ahead of the refusal.
func TestRefusedProofIsNothing(t *testing.T) {
	r := begun(t, "R4", 40, 4)
	b, none := r.leaf(keyB, "b"), r.forge(api.KindRecord, nil)
	root := r.branch(none, b, 1, 1)
	p, e := proof.Prove(r.s, root, keyK)
	if p.Found || p.Val != nil || p.Bits != [32]byte{} || p.Sums != nil || e != api.ErrCorrupt {
		t.Errorf("R4: %s, %v", told(p), e)
	}
}
