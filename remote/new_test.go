package remote_test

import (
	"testing"

	"ledger/api"
	"ledger/remote"
)

// P21.1: New takes the widths 1 to 32, the versions 0 to MaxVersion and the roots that are zero from the width on, and no others; the head is what was handed in (P21.2).
func TestNew(t *testing.T) {
	roots := []api.Digest{{}}
	for at := range 32 {
		for _, b := range []byte{1, 128, 255} {
			var root api.Digest
			root[at] = b
			roots = append(roots, root)
		}
	}
	widths := []int{lowest, -32, -1, 33, 34, 64, 256, 257, 1 << 32, 1<<32 + 4, highest}
	for w := range 33 {
		widths = append(widths, w)
	}
	for _, w := range widths {
		for _, v := range []int{lowest, -last, -2, -1, 0, 1, 2, last - 1, last, last + 1, last + 2, 1 << 32, highest} {
			for _, root := range roots {
				right := w >= 1 && w <= 32 && v >= 0 && v <= last
				for at := range root {
					right = right && (at < w || root[at] == 0)
				}
				s, e := remote.New(w, v, root)
				if !right && (s != nil || e != api.ErrArg) || right && (s == nil || e != api.OK) {
					t.Fatalf("P21.1: New(%d, %d, %x): %v, %v", w, v, root, s, e)
				}
				if !right {
					continue
				}
				if version, r := s.Head(); version != v || r != root {
					t.Fatalf("P21.2: the head of New(%d, %d, %x) is %d %x", w, v, root, version, r)
				}
			}
		}
	}
}

// P21.2: what one session takes is nothing to another one.
func TestSessionsApart(t *testing.T) {
	m := someMap()
	one, other := over(t, "P21.2", 4, 5, m), over(t, "P21.2", 4, 5, m)
	cs := []api.Change{del(keyK)}
	if v, e := one.takeChange(cs, m.changeReplies(4, 5, cs...)...); v != 6 || e != api.OK {
		t.Errorf("P21.8: TakeChange: %d, %v", v, e)
	}
	one.headIs(6, m.behind(cs...).root(4))
	other.headIs(5, m.root(4))
	other.headStands("another session's TakeChange")
}

// P21.2: the Ask calls and the Take calls of get and span leave the head, taken or refused.
func TestHeadStays(t *testing.T) {
	m := someMap()
	c := over(t, "P21.2", 4, 5, m)
	c.askGet(keyK)
	c.askSpan(low, high)
	c.askSpan(high, low)
	c.askChange(del(keyK))
	c.askChange(del(keyK), del(keyK))
	c.askMoves(6)
	c.askMoves(5)
	c.askFollow(6, diffReply(del(keyK)))
	c.askFollow(6, nil)
	c.takeGet(keyK, proofReply(m.proof(4, keyK)))
	c.takeGet(keyK, nil)
	c.takeSpan(low, high, proofReply(m.span(4, low, high)))
	c.takeSpan(low, high, nil)
	c.headIs(5, m.root(4))
}
