package client_test

import (
	"fmt"
	"testing"

	"ledger/api"
	"ledger/client"
)

// someChanges tells changes of keys that are there and that are not: such as take effect, and such as do not.
func someChanges(m entries) (cs []api.Change) {
	for _, k := range askedOf(m) {
		cs = append(cs, put(k, "new"), put(k, m[k]), del(k))
	}
	return append(cs, put(keyM, ""), put(keyC, string(text(3, 128))), api.Change{Key: keyM, Del: true, Val: text(1, 9)}, api.Change{Key: keyC, Del: true, Val: text(1, 500)})
}

// P13.9, P13.12: the root of the changed map, at all widths.
func TestAdvance(t *testing.T) {
	m := someMap()
	for _, w := range []int{1, 2, 3, 4, 8, 16, 31, 32} {
		a := ask{t, "P13.9", w, m.root(w)}
		for _, c := range someChanges(m) {
			if root, e := a.advance(m.raw(w, c.Key), c); root != m.behind(c).root(w) || e != api.OK {
				t.Errorf("P13.9: width %d: %v: %x, %v, want %x", w, c, root, e, m.behind(c).root(w))
			}
		}
	}
}

// P13.9, P13.10: a put of MaxVal bytes is right, one of more is too long; what stands beside a delete is not asked.
func TestLongValues(t *testing.T) {
	m := someMap()
	for _, w := range []int{1, 32} {
		a := ask{t, "P13.9", w, m.root(w)}
		for _, n := range []int{0, 127, 128, 129, 130, 255, 256, 257, 384, 65536, 65536 + 128} {
			for _, k := range []api.Key{keyM, keyC} {
				c := api.Change{Key: k, Val: text(n, n)}
				want := api.OK
				if n > 128 {
					want = api.ErrLong
				}
				if root, e := a.advance(m.raw(w, k), c); e != want || e != api.OK && root != (api.Digest{}) {
					t.Errorf("P13.9: %d bytes: %x, %v", n, root, e)
				}
				for _, own := range []api.Key{keyM, keyB} {
					if raw, e := a.renew(own, m.raw(w, own), m.raw(w, k), c); e != want || e != api.OK && raw != nil {
						t.Errorf("P13.10: %d bytes: %x, %v", n, raw, e)
					}
				}
				if _, e := a.advanceAll([]api.Change{c}, m.raws(w, c)); e != want {
					t.Errorf("P13.11: %d bytes: %v", n, e)
				}
				c.Del = true
				root, e1 := a.advance(m.raw(w, k), c)
				raw, e2 := a.renew(keyB, m.raw(w, keyB), m.raw(w, k), c)
				own, e3 := a.renew(k, m.raw(w, k), m.raw(w, k), c)
				all, e4 := a.advanceAll([]api.Change{c}, m.raws(w, c))
				gone := m.behind(c)
				if root != gone.root(w) || all != root || string(raw) != string(gone.raw(w, keyB)) || string(own) != string(gone.raw(w, k)) || e1 != api.OK || e2 != api.OK || e3 != api.OK || e4 != api.OK {
					t.Errorf("P13.9, P13.10: a delete with %d bytes: %v, %v, %v, %v", n, e1, e2, e3, e4)
				}
			}
		}
	}
}

// P13.9: a proof that does not hold is told ahead of a value that is too long.
func TestAdvanceRefusesTheProofFirst(t *testing.T) {
	m := someMap()
	long := put(keyM, string(text(1, 129)))
	beyond := notThere([]int{3}, sumOf(4, 1))
	beyond.Sums[0][9] = 1
	for _, c := range []struct {
		raw  []byte
		want api.Errno
	}{
		{nil, api.ErrProof},
		{rawOf(beyond), api.ErrProof},
		{rawOf(notThere([]int{3}, emptySum(4, 3))), api.ErrDefault},
		{m.raw(4, keyB), api.ErrRoot},
		{m.raw(4, keyM), api.ErrLong},
	} {
		root, e := client.Advance(4, m.root(4), c.raw, long)
		raw1, e1 := client.Renew(4, m.root(4), keyM, m.raw(4, keyM), c.raw, long)
		raw2, e2 := client.Renew(4, m.root(4), keyB, m.raw(4, keyB), c.raw, long)
		if root != (api.Digest{}) || raw1 != nil || raw2 != nil || e != c.want || e1 != c.want || e2 != c.want {
			t.Errorf("P13.9, P13.10: %v, %v, %v, want %v", e, e1, e2, c.want)
		}
	}
}

// P13.9: the neighbours are the proof's own, whatever map it comes from; the key's own answer is not asked.
func TestAdvanceOfAnyProof(t *testing.T) {
	for seed := range 12 {
		w := []int{1, 2, 4, 32}[seed%4]
		p := full(w, seed)
		if seed%3 == 0 {
			p.Found, p.Val = false, nil
		}
		x, _ := readForm(w, keyM, rawOf(p))
		a := ask{t, fmt.Sprintf("P13.9: seed %d", seed), w, x.root()}
		for _, c := range []api.Change{put(keyM, "new"), del(keyM), put(keyM, string(x.answer.Val))} {
			root, e := a.advance(rawOf(p), c)
			if want := x.path(footBehind(c))[256]; root != want || e != api.OK {
				t.Errorf("P13.9: %x, %v, want %x", root, e, want)
			}
		}
	}
}
