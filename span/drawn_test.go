package span_test

import (
	"fmt"
	"math/rand/v2"
	"slices"
	"testing"

	"ledger/api"
	"ledger/span"
)

// pick tells one of a list.
func pick[T any](rnd *rand.Rand, list ...T) T { return list[rnd.IntN(len(list))] }

// drawnKeys tells keys of which some are near others, a few of them as near as may be.
func drawnKeys(rnd *rand.Rand, n int) (keys []api.Key) {
	for len(keys) < n {
		k := keyOf(fmt.Sprintf("%05b", rnd.IntN(32)))
		if rnd.IntN(4) == 0 {
			for i := range k {
				k[i] = byte(rnd.Uint32())
			}
		}
		if len(keys) > 0 && rnd.IntN(3) == 0 {
			k = flipped(pick(rnd, keys...), pick(rnd, 0, 1, 2, 3, 5, 8, 9, 20, 40))
		}
		if len(keys) == n-1 {
			k = flipped(keys[0], pick(rnd, 100, 254, 255))
		}
		keys = append(keys, k)
	}
	return keys
}

// drawnList tells changes of unlike keys, in any order.
func drawnList(rnd *rand.Rand, keys []api.Key, most int) (cs []api.Change) {
	seen := map[api.Key]int{}
	for range rnd.IntN(most + 1) {
		k := pick(rnd, keys...)
		if seen[k]++; seen[k] == 1 {
			cs = append(cs, pick(rnd, del(k), put(k, ""), put(k, "a"), put(k, "b"), put(k, string(text(1, 128)))))
		}
	}
	return cs
}

// drawnSpan tells a span of which an end may be one of these keys.
func drawnSpan(rnd *rand.Rand, keys []api.Key) (lo, hi api.Key) {
	lo = moved(pick(rnd, keys...), int64(rnd.IntN(3)-1))
	hi = pick(rnd, lo, moved(pick(rnd, keys...), int64(rnd.IntN(3)-1)), flipped(lo, rnd.IntN(256)), keyZ)
	if bitsOf(lo) > bitsOf(hi) {
		return hi, lo
	}
	return lo, hi
}

// version is a tree that was made, with its map.
type version struct {
	root int
	m    entries
}

// P14.1 to P14.6 of drawn maps, each made out of an earlier one, at all widths: by the pages, by the map alone, and back.
func TestDrawnMaps(t *testing.T) {
	for seed := range uint64(32) {
		rnd := rand.New(rand.NewPCG(seed, 12))
		r := begun(t, fmt.Sprintf("seed %d", seed), 3500, 1+int(seed))
		keys := drawnKeys(rnd, 12)
		all := []version{{0, entries{}}}
		for range 8 {
			from := pick(rnd, all...)
			cs := drawnList(rnd, keys, pick(rnd, 1, 3, 8))
			all = append(all, version{r.update(from.root, cs...), from.m.behind(cs)})
			if rnd.IntN(4) == 0 {
				r.flush()
			}
		}
		r.quiet(func() {
			for _, v := range all {
				for range 4 {
					lo, hi := drawnSpan(rnd, keys)
					r.every(v.root, v.m, [][2]api.Key{{lo, hi}})
				}
			}
		})
	}
}

// drawer makes proofs, right and wrong ones.
type drawer struct {
	ask
	*rand.Rand
	keys []api.Key
	m    entries
}

// drawn tells a drawer with a map and a span of its own.
func drawn(t *testing.T, seed, row uint64) *drawer {
	rnd := rand.New(rand.NewPCG(seed, row))
	keys, w := drawnKeys(rnd, 8), pick(rnd, 1, 2, 4, 32)
	m := entries{}.behind(drawnList(rnd, keys, 16))
	lo, hi := drawnSpan(rnd, keys)
	return &drawer{ask{t, fmt.Sprintf("P14.8: seed %d", seed), w, m.root(w), lo, hi}, rnd, keys, m}
}

// raw tells the map's own proof.
func (d *drawer) raw() []byte { return d.m.proof(d.w, d.lo, d.hi) }

// spoilt tells bytes that are nearly those.
func (d *drawer) spoilt(raw []byte) []byte {
	raw = append(slices.Clone(raw), make([]byte, max(0, 1-len(raw)))...)
	at := d.IntN(len(raw))
	switch d.IntN(9) {
	case 0:
		return raw[:at]
	case 1:
		return append(raw, make([]byte, pick(d.Rand, 1, 31, 32, 33))...)
	case 2:
		raw[at] = byte(d.IntN(5))
	case 3:
		return d.bytes(d.IntN(300))
	case 4:
		return slices.Insert(raw, at, byte(d.IntN(4)))
	case 5:
		return slices.Delete(raw, at, at+1)
	case 6:
		return slices.Insert(raw, at, sumText(pick(d.Rand, emptySum(d.w, d.IntN(257)), cut(d.w, sumOf(at))))...)
	case 7:
		return slices.Insert(raw, at, loneText(pick(d.Rand, d.keys...), "x")...)
	default:
		raw[at] ^= 1 << d.IntN(8)
	}
	return raw
}

// bytes tells n bytes of any kind, of which most are marks.
func (d *drawer) bytes(n int) []byte {
	raw := make([]byte, n)
	for i := range raw {
		raw[i] = byte(d.Uint32()) & pick[byte](d.Rand, 0, 1, 3, 3, 3, 255)
	}
	return raw
}

// grown tells a text of a place that is right in its form most often, whatever map it may be of.
func (d *drawer) grown(row string) []byte {
	h := 256 - len(row)
	wrong := d.IntN(200) == 0
	if outside(row, d.lo, d.hi) != wrong {
		switch d.IntN(9) {
		case 0:
			return sumText(emptySum(d.w, h))
		case 1:
			return sumText(emptySum(d.w, d.IntN(257)))
		case 2, 3:
			return noneText()
		}
		return sumText(cut(d.w, sumOf(d.IntN(999))))
	}
	if h == 0 || d.IntN(3) == 0 {
		k := keyOf(row + bitsOf(pick(d.Rand, d.keys...))[len(row):])
		return pick(d.Rand, noneText(), loneText(k, ""), loneText(k, string(text(1, d.IntN(129)))))
	}
	if len(row) > 12 && h > 3 && d.IntN(4) > 0 {
		// A long way down beside nothing.
		low := d.grown(row + "0")
		if low[0] == 3 {
			return pairText(low, noneText())
		}
		return low
	}
	return pairText(d.grown(row+"0"), d.grown(row+"1"))
}

// P14.4, P14.8: whatever the bytes, Verify ends, and answers as the promises read, under the root that the bytes would have.
func TestAnyBytes(t *testing.T) {
	counts := map[api.Errno]int{}
	for seed := range uint64(350) {
		d := drawn(t, seed, 33)
		for _, raw := range [][]byte{d.bytes(pick(d.Rand, d.IntN(5), d.IntN(60), d.IntN(400))), d.spoilt(d.raw()), d.spoilt(d.spoilt(d.raw())), d.grown("")} {
			a := d.ask
			l := listener{w: a.w, lo: a.lo, hi: a.hi, rest: raw}
			if whole, e := l.hear(""); e == api.OK && d.IntN(8) > 0 {
				a.root = whole.sum
			}
			_, e := a.verify(raw)
			counts[e]++
			a.clash(raw, d.raw())
			a.clash(d.raw(), raw)
		}
	}
	if counts[api.OK] < 100 || counts[api.ErrProof] < 500 || counts[api.ErrDefault] < 30 || counts[api.ErrRoot] < 30 {
		t.Errorf("P14.8: the bytes say too little: %v", counts)
	}
}

// P14.6: what is shown is in rising order, none twice, from lo to hi, and no value is too long.
func TestWhatIsShown(t *testing.T) {
	shown := 0
	for seed := range uint64(3000) {
		d := drawn(t, seed, 34)
		raw := d.grown("")
		l := listener{w: d.w, lo: d.lo, hi: d.hi, rest: raw}
		whole, e := l.hear("")
		if e != api.OK || len(l.rest) > 0 {
			continue
		}
		list, e := span.Verify(d.w, whole.sum, d.lo, d.hi, raw)
		if e != api.OK {
			t.Errorf("P14.4: %x: %v", raw, e)
		}
		for i, x := range list {
			shown++
			if bitsOf(x.Key) < bitsOf(d.lo) || bitsOf(x.Key) > bitsOf(d.hi) || len(x.Val) > 128 {
				t.Errorf("P14.6: from %x to %x: %x is shown, with %d bytes", d.lo, d.hi, x.Key, len(x.Val))
			}
			if i > 0 && bitsOf(list[i-1].Key) >= bitsOf(x.Key) {
				t.Errorf("P14.6: %x behind %x", x.Key, list[i-1].Key)
			}
		}
	}
	if shown < 300 {
		t.Errorf("P14.6: %d entries were shown: the proofs say too little", shown)
	}
}
