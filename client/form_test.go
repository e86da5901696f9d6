package client_test

import (
	"slices"
	"testing"

	"ledger/api"
	"ledger/client"
)

// refused asks that a proof for a key is refused so by every call, wherever it stands beside one that holds for that key; Path knows no root.
func (a ask) refused(k api.Key, raw, good []byte, why api.Errno) {
	a.Helper()
	if e := a.all(k, raw); e != why {
		a.Errorf("%s: width %d: Verify(%x, %x): %v, want %v", a.promise, a.w, k, raw, e, why)
	}
	if _, e := a.path(k, raw); e != why && why != api.ErrRoot {
		a.Errorf("%s: width %d: Path(%x, %x): %v, want %v", a.promise, a.w, k, raw, e, why)
	}
	if _, _, is := a.extract(k, raw, good); is {
		a.Errorf("%s: width %d: Extract", a.promise, a.w)
	}
	if _, _, is := a.extract(k, good, raw); is {
		a.Errorf("%s: width %d: Extract", a.promise, a.w)
	}
	for _, c := range []api.Change{put(k, "x"), del(k), put(k, string(text(1, 129)))} {
		if _, e := a.advance(raw, c); e != why {
			a.Errorf("%s: width %d: Advance: %v, want %v", a.promise, a.w, e, why)
		}
		if _, e := a.renew(k, raw, good, c); e != why {
			a.Errorf("%s: width %d: Renew, the key's own: %v, want %v", a.promise, a.w, e, why)
		}
		if _, e := a.renew(k, good, raw, c); e != why {
			a.Errorf("%s: width %d: Renew, the change's: %v, want %v", a.promise, a.w, e, why)
		}
	}
	if _, e := a.advanceAll([]api.Change{put(k, "x")}, [][]byte{raw}); e != why {
		a.Errorf("%s: width %d: AdvanceAll: %v, want %v", a.promise, a.w, e, why)
	}
}

// P13.1: what Decode says is told first of all.
func TestFormOfBytes(t *testing.T) {
	m := someMap()
	for _, w := range []int{1, 4, 31, 32} {
		a := ask{t, "P13.1", w, m.root(w)}
		for _, k := range []api.Key{keyM, keyC} {
			good := m.raw(w, k)
			for _, raw := range [][]byte{
				nil, {}, {0}, {1}, {2}, good[1:], append(slices.Clone(good), 0), append(slices.Clone(good), make([]byte, 32)...),
				append([]byte{2}, good[1:]...), append([]byte{255}, good[1:]...), append([]byte{1, 129, 0}, make([]byte, 161)...), append([]byte{1, 0, 1}, make([]byte, 288)...),
				make([]byte, 32), make([]byte, 34), make([]byte, 65),
			} {
				a.refused(k, raw, good, api.ErrProof)
			}
			for n := range good {
				if _, e := client.Verify(w, a.root, k, good[:n:n]); e != api.ErrProof {
					t.Errorf("P13.1: width %d: %d of %d bytes: %v", w, n, len(good), e)
				}
			}
		}
	}
}

// P13.1: bytes that are no proof, though they begin as one whose digests are wrong in every way.
func TestFormOfBytesAheadOfDigests(t *testing.T) {
	for _, w := range []int{1, 4, 32} {
		a := ask{t, "P13.1", w, emptySum(w, 256)}
		raw := append(rawOf(notThere([]int{0}, emptySum(w, 0))), 0)
		a.refused(keyK, raw, emptyRaw(), api.ErrProof)
		a.refused(keyK, raw[:len(raw)-1], emptyRaw(), api.ErrDefault)
		a.refused(keyK, raw[:len(raw)-2], emptyRaw(), api.ErrProof)
	}
}

// P13.1: no byte at or beyond the width, at the first, the last and some heights between.
func TestFormOfBytesBeyondTheWidth(t *testing.T) {
	for w := 1; w <= 32; w++ {
		for _, h := range []int{0, 1, 7, 8, 100, 254, 255} {
			p := notThere([]int{h}, sumOf(w, h))
			if p.Sums[0] == emptySum(w, h) {
				p.Sums[0] = sumOf(w, h+1000)
			}
			a := ask{t, "P13.1", w, emptySum(w, 256)}
			if _, e := a.path(keyM, rawOf(p)); e != api.OK {
				t.Errorf("P13.1: width %d, height %d: %v", w, h, e)
			}
			for place := w; place < 32; place++ {
				p.Sums[0][place] = byte(1 + place%3*127)
				if _, e := client.Path(w, keyM, rawOf(p)); e != api.ErrProof {
					t.Errorf("P13.1: width %d, height %d, byte %d is not zero: %v", w, h, place, e)
				}
				p.Sums[0][place] = 0
			}
			if w < 32 && (h == 0 || h == 255 && w%5 == 0) {
				p.Sums[0][w] = 1
				a.refused(keyM, rawOf(p), emptyRaw(), api.ErrProof)
				p.Sums[0][w], p.Sums[0][31] = 0, 128
				a.refused(keyM, rawOf(p), emptyRaw(), api.ErrProof)
				// With its first bytes the empty subtree's it is still the byte behind the width that is wrong.
				p.Sums[0] = emptySum(w, h)
				p.Sums[0][31] = 1
				a.refused(keyM, rawOf(p), emptyRaw(), api.ErrProof)
			}
		}
	}
}

// P13.1: an empty subtree's digest is not written out at its own height; at another height it is a digest like any other.
func TestFormOfEmptyDigests(t *testing.T) {
	for _, w := range []int{1, 2, 4, 32} {
		for _, h := range []int{0, 1, 8, 100, 255} {
			a := ask{t, "P13.1", w, emptySum(w, 256)}
			a.refused(keyM, rawOf(notThere([]int{h}, emptySum(w, h))), emptyRaw(), api.ErrDefault)
			for _, other := range []int{h - 1, h + 1, 0, 255, 256} {
				if other < 0 || emptySum(w, other) == emptySum(w, h) {
					continue
				}
				raw := rawOf(notThere([]int{h}, emptySum(w, other)))
				if _, e := a.path(keyM, raw); e != api.OK {
					t.Errorf("P13.1: width %d: the empty digest of %d at %d: %v", w, other, h, e)
				}
				a.all(keyM, raw)
			}
		}
	}
}

// P13.1: of all 256 digests the first wrong one is told, whatever the ones behind it are.
func TestFormTellsTheFirstDigest(t *testing.T) {
	const w = 4
	good := full(w, 5)
	x, e := readForm(w, keyM, rawOf(good))
	if e != api.OK {
		t.Fatal(e)
	}
	a := ask{t, "P13.1", w, x.root()}
	if e := a.all(keyM, rawOf(good)); e != api.OK {
		t.Fatalf("P13.1: all 256 digests: %v", e)
	}
	with := func(wrong map[int]api.Errno) []byte {
		p := good
		p.Sums = slices.Clone(p.Sums)
		for h, why := range wrong {
			if why == api.ErrDefault {
				p.Sums[h] = emptySum(w, h)
			} else {
				p.Sums[h][w+h%28] = 1
			}
		}
		return rawOf(p)
	}
	for h := range 256 {
		for _, why := range []api.Errno{api.ErrProof, api.ErrDefault} {
			if _, e := client.Verify(w, a.root, keyM, with(map[int]api.Errno{h: why})); e != why {
				t.Errorf("P13.1: the digest of %d: %v, want %v", h, e, why)
			}
		}
	}
	for _, hs := range [][2]int{{0, 1}, {0, 255}, {7, 8}, {100, 200}, {254, 255}} {
		a.refused(keyM, with(map[int]api.Errno{hs[0]: api.ErrProof, hs[1]: api.ErrDefault}), rawOf(good), api.ErrProof)
		a.refused(keyM, with(map[int]api.Errno{hs[0]: api.ErrDefault, hs[1]: api.ErrProof}), rawOf(good), api.ErrDefault)
	}
}

// P13.1, P13.2: the digest stands at the height of its bit: with no bit, the first, the last, some and all of them.
func TestHeightsOfDigests(t *testing.T) {
	for _, w := range []int{1, 4, 32} {
		for _, k := range []api.Key{keyK, keyM, keyZ} {
			for _, hs := range [][]int{nil, {0}, {255}, {0, 255}, {7, 8}, {1, 2, 3, 100, 200, 254}, heights()} {
				p := there("v", hs)
				for _, h := range hs {
					p.Sums = append(p.Sums, full(w, 7).Sums[h])
				}
				x, e := readForm(w, k, rawOf(p))
				if e != api.OK {
					t.Fatal(e)
				}
				if e := (ask{t, "P13.2", w, x.root()}).all(k, rawOf(p)); e != api.OK {
					t.Errorf("P13.2: width %d, heights %v: %v", w, hs, e)
				}
			}
		}
	}
}

// The width is asked ahead of all else.
func TestWidths(t *testing.T) {
	long := put(keyK, string(text(1, 129)))
	for _, w := range []int{lowest, -256, -33, -32, -1, 0, 33, 34, 64, 256, 257, 1 << 32, 1<<32 + 4, highest} {
		for _, raw := range [][]byte{nil, {9}, emptyRaw(), loneRaw()} {
			for _, root := range []api.Digest{{}, rootOf0, sumOf(32, 1)} {
				a := ask{t, "the width", w, root}
				if e := a.all(keyK, raw); e != api.ErrArg {
					t.Errorf("width %d: %v", w, e)
				}
				_, e1 := a.path(keyK, raw)
				_, _, is := a.extract(keyK, raw, append(slices.Clone(raw), 1))
				_, e2 := a.advance(raw, long)
				_, e3 := a.renew(keyK, raw, raw, long)
				_, e4 := a.advanceAll(nil, nil)
				_, e5 := a.advanceAll([]api.Change{long, long}, [][]byte{raw, raw})
				if e1 != api.ErrArg || is || e2 != api.ErrArg || e3 != api.ErrArg || e4 != api.ErrArg || e5 != api.ErrArg {
					t.Errorf("width %d: %v %t %v %v %v %v", w, e1, is, e2, e3, e4, e5)
				}
			}
		}
	}
	for w := 1; w <= 32; w++ {
		if e := (ask{t, "the width", w, emptySum(w, 256)}).all(keyK, emptyRaw()); e != api.OK {
			t.Errorf("width %d: %v", w, e)
		}
	}
}
