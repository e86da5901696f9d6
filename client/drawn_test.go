package client_test

import (
	"fmt"
	"math/rand/v2"
	"slices"
	"testing"

	"ledger/api"
)

// drawer makes proofs, right and wrong ones, out of a map and what meets its proofs at a small width.
type drawer struct {
	*testing.T
	*rand.Rand
	w    int
	keys []api.Key
	m    entries
}

// drawn tells a drawer with a map of its own.
func drawn(t *testing.T, seed, row uint64) *drawer {
	rnd := rand.New(rand.NewPCG(seed, row))
	d := &drawer{t, rnd, pick(rnd, 1, 1, 2, 4, 32), drawnKeys(rnd, 6), entries{}}
	d.m = d.m.behind(drawnList(rnd, d.keys, 12)...)
	return d
}

// held tells a proof for a key that holds under the map's root: the map's own, or another one that meets it.
func (d *drawer) held(k api.Key) []byte {
	d.Helper()
	x := d.m.said(d.T, d.w, k)
	if d.w > 1 || d.IntN(3) == 0 {
		return x.raw()
	}
	height := pick(d.Rand, 2, 5, 250, 256, 2+d.IntN(255))
	return x.meets(d.T, height, d.IntN(1000), d.IntN(2) == 0).raw()
}

// spoilt tells bytes that are nearly those.
func (d *drawer) spoilt(raw []byte) []byte {
	raw = slices.Clone(raw)
	switch d.IntN(8) {
	case 0:
		return raw[:d.IntN(len(raw))]
	case 1:
		return append(raw, make([]byte, pick(d.Rand, 1, 31, 32, 33))...)
	case 2:
		raw[0] = byte(d.IntN(4))
	case 3:
		return d.bytes(d.IntN(300))
	case 4:
		return slices.Insert(raw, d.IntN(len(raw)), byte(d.IntN(3)))
	default:
		raw[d.IntN(len(raw))] ^= 1 << d.IntN(8)
	}
	return raw
}

// bytes tells n bytes of any kind.
func (d *drawer) bytes(n int) []byte {
	raw := make([]byte, n)
	for i := range raw {
		raw[i] = byte(d.Uint32()) & pick[byte](d.Rand, 0, 1, 255)
	}
	return raw
}

// raw tells a proof for a key, most often one that holds.
func (d *drawer) raw(k api.Key) []byte {
	d.Helper()
	switch d.IntN(8) {
	case 0:
		return d.spoilt(d.held(k))
	case 1:
		return d.held(pick(d.Rand, d.keys...))
	}
	return d.held(k)
}

// change tells a change of a key, now and then one that is too long.
func (d *drawer) change(k api.Key) api.Change {
	return pick(d.Rand, put(k, "a"), put(k, ""), del(k), put(k, d.m[k]), put(k, string(text(1, 128))), api.Change{Key: k, Del: true, Val: text(1, 129)}, put(k, string(text(1, 128+d.IntN(2)))))
}

// All calls, of drawn proofs that hold, nearly hold, or are anything: as the promises read (P13.1 to P13.11).
func TestDrawnCalls(t *testing.T) {
	held, refused, extracted := 0, 0, 0
	for seed := range uint64(150) {
		d := drawn(t, seed, 31)
		a := ask{t, fmt.Sprintf("seed %d", seed), d.w, d.m.root(d.w)}
		for range 4 {
			k, other := pick(d.Rand, d.keys...), pick(d.Rand, d.keys...)
			raw := d.raw(k)
			if _, e := a.verify(k, raw); e == api.OK {
				held++
			} else {
				refused++
			}
			a.path(k, raw)
			a.advance(raw, d.change(k))
			a.renew(k, raw, d.raw(other), d.change(other))
			if _, _, is := a.extract(k, raw, d.raw(k)); is {
				extracted++
			}
		}
	}
	if held < 300 || refused < 60 || extracted < 60 {
		t.Errorf("%d proofs held, %d did not, %d texts were extracted: the calls say too little", held, refused, extracted)
	}
}

// AdvanceAll of drawn lists, right and wrong, in any order (P13.11).
func TestDrawnLists(t *testing.T) {
	led, refused := 0, 0
	for seed := range uint64(150) {
		d := drawn(t, seed, 32)
		a := ask{t, fmt.Sprintf("seed %d", seed), d.w, d.m.root(d.w)}
		var cs []api.Change
		var raws [][]byte
		d.Shuffle(len(d.keys), func(i, j int) { d.keys[i], d.keys[j] = d.keys[j], d.keys[i] })
		for _, k := range d.keys[:1+d.IntN(5)] {
			cs = append(cs, d.change(k))
			if d.IntN(20) == 0 {
				raws = append(raws, d.raw(k))
			} else {
				raws = append(raws, d.held(k))
			}
		}
		if d.IntN(20) == 0 {
			raws = append(raws, emptyRaw())
		}
		if _, e := a.advanceAll(cs, raws); e == api.OK {
			led++
		} else {
			refused++
		}
	}
	if led < 60 || refused < 20 {
		t.Errorf("%d lists led to a root, %d were refused: the lists say too little", led, refused)
	}
}

// P13.13: whatever the bytes, every call ends, and answers as the promises read.
func TestAnyBytes(t *testing.T) {
	for seed := range uint64(200) {
		d := drawn(t, seed, 33)
		a := ask{t, fmt.Sprintf("P13.13: seed %d", seed), d.w, d.m.root(d.w)}
		k := pick(d.Rand, d.keys...)
		raw := d.bytes(pick(d.Rand, d.IntN(40), d.IntN(200), d.IntN(9000)))
		if len(raw) > 33 && d.IntN(2) == 0 {
			raw[0] = byte(d.IntN(2))
		}
		a.all(k, raw)
		a.all(k, d.spoilt(d.m.raw(d.w, k)))
		a.renew(k, d.m.raw(d.w, k), raw, d.change(pick(d.Rand, d.keys...)))
		a.extract(k, raw, d.m.raw(d.w, k))
		a.advanceAll([]api.Change{d.change(k), d.change(flipped(k, 3))}, [][]byte{d.m.raw(d.w, k), raw})
	}
}
