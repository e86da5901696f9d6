package client_test

import (
	"bytes"
	"fmt"
	"testing"

	"ledger/api"
	"ledger/client"
)

// renews asks for the proof of the changed map.
func (a ask) renews(m entries, k api.Key, c api.Change) {
	a.Helper()
	want := m.behind(c).raw(a.w, k)
	if raw, e := a.renew(k, m.raw(a.w, k), m.raw(a.w, c.Key), c); !bytes.Equal(raw, want) || e != api.OK {
		a.Errorf("%s: width %d: %x behind %v: %x, %v, want %x", a.promise, a.w, k, c, raw, e, want)
	}
}

// P13.10, P13.12: of the changed key itself and of others, there and not there, puts and deletes.
func TestRenew(t *testing.T) {
	m := someMap()
	for _, w := range []int{1, 3, 32} {
		a := ask{t, "P13.10", w, m.root(w)}
		for _, c := range someChanges(m) {
			for _, k := range []api.Key{c.Key, keyM, keyC, flipped(c.Key, 255), flipped(c.Key, 0)} {
				a.renews(m, k, c)
			}
		}
	}
}

// P13.10: at each height that may part the two keys, from both sides, where the neighbour becomes and stops being empty.
func TestRenewAtEachHeight(t *testing.T) {
	for bits := range 256 {
		w := []int{1, 2, 4, 32}[bits%4]
		other := flipped(keyM, bits)
		for i, m := range []entries{{keyM: "m"}, {keyM: "m", other: "o", keyB: "b"}, {}, {other: "o"}, {keyM: "m", other: "o"}} {
			if i > 1 && bits%8 != 7 {
				continue
			}
			a := ask{t, fmt.Sprintf("P13.10: %d bits", bits), w, m.root(w)}
			for _, c := range []api.Change{put(other, "new"), del(other)} {
				a.renews(m, keyM, c)
			}
			if bits%16 == 0 {
				a.renews(m, other, put(keyM, "new"))
				a.renews(m, other, del(keyM))
			}
		}
	}
}

// P13.10: only the neighbour of the height at which the keys part is another one.
func TestRenewTouchesOneNeighbour(t *testing.T) {
	const w = 32
	m := someMap()
	for h := range 256 {
		m[flipped(keyM, 255-h)] = fmt.Sprint(h)
	}
	was := m.said(t, w, keyM)
	for _, h := range []int{0, 1, 7, 8, 9, 100, 247, 248, 254, 255} {
		c := put(flipped(keyM, 255-h), "new")
		raw, e := client.Renew(w, m.root(w), keyM, m.raw(w, keyM), m.raw(w, c.Key), c)
		now, why := readForm(w, keyM, raw)
		if e != api.OK || why != api.OK || !sameAnswer(now.answer, was.answer) {
			t.Fatalf("P13.10: height %d: %v, %v", h, e, why)
		}
		for at := range 256 {
			if same := now.beside[at] == was.beside[at]; same != (at != h) {
				t.Errorf("P13.10: a change at the height %d: the neighbour of %d: the same: %t", h, at, same)
			}
		}
	}
}

// P13.10: with k the changed key the answer alone is another one: all 256 neighbours stay, the value comes and goes.
func TestRenewOfTheChangedKey(t *testing.T) {
	for _, w := range []int{1, 4, 32} {
		for _, p := range []api.Proof{full(w, 2), there("", nil), notThere(nil), notThere([]int{0}, full(w, 2).Sums[0]), there("v", []int{255}, full(w, 2).Sums[255])} {
			x, e := readForm(w, keyM, rawOf(p))
			if e != api.OK {
				t.Fatal(e)
			}
			a := ask{t, "P13.10", w, x.root()}
			for _, c := range []api.Change{put(keyM, "new"), put(keyM, ""), put(keyM, string(text(1, 128))), del(keyM), {Key: keyM, Del: true, Val: []byte("no")}} {
				want := p
				want.Found, want.Val = !c.Del, c.Val
				if c.Del {
					want.Val = nil
				}
				if raw, e := a.renew(keyM, rawOf(p), rawOf(p), c); !bytes.Equal(raw, rawOf(want)) || e != api.OK {
					t.Errorf("P13.10: width %d: %v: %x, %v, want %x", w, c, raw, e, rawOf(want))
				}
			}
		}
	}
}

// P13.10: raw is looked at ahead of rawAt, and both ahead of the value's length.
func TestRenewRefusals(t *testing.T) {
	const w = 4
	m := someMap()
	a := ask{t, "P13.10", w, m.root(w)}
	wrong := map[api.Errno][]byte{
		api.ErrProof:   {7},
		api.ErrDefault: rawOf(notThere([]int{255}, emptySum(w, 255))),
		api.ErrRoot:    emptyRaw(),
	}
	for _, c := range []api.Change{put(keyM, "new"), put(keyM, string(text(1, 129))), del(keyM)} {
		for _, k := range []api.Key{keyM, keyB, keyC} {
			for first, raw := range wrong {
				for second, rawAt := range wrong {
					if got, e := a.renew(k, raw, rawAt, c); got != nil || e != first {
						t.Errorf("P13.10: %v ahead of %v: %x, %v", first, second, got, e)
					}
					if got, e := a.renew(k, m.raw(w, k), rawAt, c); got != nil || e != second {
						t.Errorf("P13.10: %v: %x, %v", second, got, e)
					}
				}
				if got, e := a.renew(k, raw, m.raw(w, c.Key), c); got != nil || e != first {
					t.Errorf("P13.10: %v: %x, %v", first, got, e)
				}
			}
			// Each proof is held against its own key: changed round they do not hold.
			if k != c.Key {
				if got, e := a.renew(k, m.raw(w, c.Key), m.raw(w, k), c); got != nil || e != api.ErrRoot {
					t.Errorf("P13.10: changed round: %x, %v", got, e)
				}
			}
		}
	}
}

// P13.10: two proofs that hold under one root, but do not fit one another: nothing of rawAt but the one digest is taken.
func TestRenewOfProofsThatDoNotFit(t *testing.T) {
	m := someMap()
	for _, w := range []int{1, 2} {
		a := ask{t, "P13.10", w, m.root(w)}
		tries := []int{1, 2, 3, 60, 199, 254, 255, 256}
		if w == 2 {
			tries = []int{1, 100, 256}
		}
		for _, height := range tries {
			strange := m.said(t, w, keyM).meets(t, height, height, false)
			for _, bit := range []int{0, 1, 3, 55, 56, 57, 128, 195, 252, 253, 254, 255} {
				other := flipped(keyM, bit)
				for _, c := range []api.Change{put(keyM, "new"), del(keyM)} {
					a.renew(other, m.raw(w, other), strange.raw(), c)
					a.renew(keyM, m.raw(w, keyM), strange.raw(), c)
					a.renew(keyM, strange.raw(), m.raw(w, keyM), c)
				}
				for _, c := range []api.Change{put(other, "new"), del(other)} {
					a.renew(keyM, strange.raw(), m.raw(w, other), c)
				}
			}
			// With the changed key's own neighbours of raw, not those of rawAt.
			raw, e := client.Renew(w, a.root, keyM, m.raw(w, keyM), strange.raw(), put(keyM, "new"))
			if want := m.behind(put(keyM, "new")).raw(w, keyM); !bytes.Equal(raw, want) || e != api.OK {
				t.Errorf("P13.10: %x, %v, want %x", raw, e, want)
			}
		}
	}
}

// P13.10: at a small width a neighbour that holds a key may have the empty subtree's digest: then it is not written out.
func TestRenewLeavesOutWhatLooksEmpty(t *testing.T) {
	met := 0
	for bit := range 256 {
		other := flipped(keyK, bit)
		for i := range 20 {
			val := fmt.Sprint(i)
			if loneSum(1, other, val, 255-bit) != emptySum(1, 255-bit) {
				continue
			}
			met++
			raw, e := client.Renew(1, emptySum(1, 256), keyK, emptyRaw(), emptyRaw(), put(other, val))
			if !bytes.Equal(raw, emptyRaw()) || e != api.OK {
				t.Errorf("P13.10: bit %d: %x, %v", bit, raw, e)
			}
			break
		}
	}
	if met < 20 {
		t.Errorf("P13.10: only %d neighbours look empty", met)
	}
}
