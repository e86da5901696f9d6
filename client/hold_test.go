package client_test

import (
	"fmt"
	"slices"
	"testing"

	"ledger/api"
	"ledger/client"
)

// askedOf tells the keys of a map and some that it does not hold, near them and far.
func askedOf(m entries) []api.Key {
	keys := m.rising()
	for _, k := range []api.Key{keyC, keyZ, keyOf("01"), keyOf("1011"), flipped(keyM, 1), flipped(keyM, 128), flipped(keyM, 255)} {
		if _, has := m[k]; !has {
			keys = append(keys, k)
		}
	}
	return keys
}

// P13.5, P13.6: what holds is told as the map holds it, at all widths.
func TestVerify(t *testing.T) {
	m := someMap()
	for w := 1; w <= 32; w++ {
		a := ask{t, "P13.6", w, m.root(w)}
		for _, k := range askedOf(m) {
			if got, e := a.verify(k, m.raw(w, k)); !sameAnswer(got, m.answer(k)) || e != api.OK {
				t.Errorf("P13.6: width %d: %x: %v, %v, want %v", w, k, got, e, m.answer(k))
			}
		}
	}
}

// P13.6: a value of no bytes is there, and one of MaxVal bytes.
func TestVerifyOfValues(t *testing.T) {
	for n := range 129 {
		m := entries{keyM: string(text(n, n)), keyK: "k"}
		got, e := client.Verify(32, m.root(32), keyM, m.raw(32, keyM))
		if !got.Found || string(got.Val) != m[keyM] || e != api.OK {
			t.Errorf("P13.6: a value of %d bytes: %v, %v", n, got, e)
		}
	}
}

// P13.5: each bit of the root counts, those behind the width too.
func TestRootsOfOneOtherBit(t *testing.T) {
	m := someMap()
	for _, w := range []int{1, 4, 31, 32} {
		good := m.raw(w, keyM)
		for bit := range 256 {
			root := api.Digest(flipped(api.Key(m.root(w)), bit))
			if got, e := client.Verify(w, root, keyM, good); !sameAnswer(got, api.Answer{}) || e != api.ErrRoot {
				t.Errorf("P13.5: width %d, bit %d of the root: %v, %v", w, bit, got, e)
			}
		}
		far := m.root(w)
		if w < 32 {
			far[31] = 1
			ask{t, "P13.5", w, far}.refused(keyM, good, good, api.ErrRoot)
			far = m.root(w)
			far[w] = 128
		} else {
			far[31] ^= 1
		}
		ask{t, "P13.5", w, far}.refused(keyM, good, good, api.ErrRoot)
	}
}

// P13.5: at the width 32 a proof holds for its own key, answer and neighbours alone.
func TestProofsThatDoNotHold(t *testing.T) {
	m := someMap()
	a := ask{t, "P13.5", 32, m.root(32)}
	for _, k := range []api.Key{keyM, keyC} {
		good := m.raw(32, k)
		for bit := range 256 {
			if got, e := client.Verify(32, a.root, flipped(k, bit), good); !sameAnswer(got, api.Answer{}) || e != api.ErrRoot {
				t.Errorf("P13.5: for another key, bit %d: %v, %v", bit, got, e)
			}
		}
		p := m.proof(32, k)
		other := p
		other.Found, other.Val = !p.Found, nil
		a.refused(k, rawOf(other), good, api.ErrRoot)
		a.refused(k, rawOf(api.Proof{Found: true, Val: []byte("M"), Bits: p.Bits, Sums: p.Sums}), good, api.ErrRoot)
		a.refused(k, rawOf(api.Proof{Found: true, Bits: p.Bits, Sums: p.Sums}), good, api.ErrRoot)
		for i := range p.Sums {
			q := p
			q.Sums = slices.Clone(p.Sums)
			q.Sums[i][31] ^= 1
			a.refused(k, rawOf(q), good, api.ErrRoot)
		}
	}
	a.refused(keyM, m.raw(32, keyB), m.raw(32, keyM), api.ErrRoot)
	a.refused(keyM, m.behind(put(keyZ, "other")).raw(32, keyM), m.raw(32, keyM), api.ErrRoot)
}

// P13.3, P13.7: 257 digests, each worked out by hand from the one below it and what lies beside it.
func TestPathHeightByHeight(t *testing.T) {
	m := someMap()
	for _, w := range []int{1, 3, 32} {
		for _, k := range askedOf(m) {
			got, e := client.Path(w, k, m.raw(w, k))
			if len(got) != 257 || e != api.OK {
				t.Fatalf("P13.7: %d digests, %v", len(got), e)
			}
			for h, sum := range got {
				if want := m.sum(w, bitsOf(k)[:256-h]); sum != want {
					t.Errorf("P13.3: width %d, key %x, height %d: %x, want %x", w, k, h, sum, want)
				}
			}
		}
	}
	for _, k := range []api.Key{keyK, keyZ, keyM, keyC} {
		for _, p := range []api.Proof{full(4, 1), there("", nil), notThere(nil), notThere([]int{0}, sumOf(4, 1)), notThere([]int{255}, sumOf(4, 2))} {
			got, e := client.Path(4, k, rawOf(p))
			if len(got) != 257 || e != api.OK {
				t.Fatalf("P13.7: %d digests, %v", len(got), e)
			}
			sums := p.Sums
			want := emptySum(4, 0)
			if p.Found {
				want = leafSum(4, k, string(p.Val))
			}
			for h := range 256 {
				if got[h] != want {
					t.Errorf("P13.3: key %x, height %d: %x, want %x", k, h, got[h], want)
				}
				beside := emptySum(4, h)
				if p.Bits[h/8]>>(h%8)&1 == 1 {
					beside, sums = sums[0], sums[1:]
				}
				if bitsOf(k)[255-h] == '0' {
					want = pairSum(4, want, beside)
				} else {
					want = pairSum(4, beside, want)
				}
			}
			if got[256] != want {
				t.Errorf("P13.3: key %x, height 256: %x, want %x", k, got[256], want)
			}
		}
	}
}

// P13.7: a path hangs on no root: a proof that leads anywhere has one.
func TestPathOfAnyRoot(t *testing.T) {
	for seed := range 20 {
		w := 1 + seed
		a := ask{t, fmt.Sprintf("P13.7: seed %d", seed), w, api.Digest{}}
		p := full(w, seed)
		if _, e := a.path(keyM, rawOf(p)); e != api.OK {
			t.Errorf("P13.7: %v", e)
		}
	}
}

// P13.4: the digest of each height is that of the text: of the key's own, and of those above it, as Extract tells them.
func TestTextsHaveTheDigestsOfThePath(t *testing.T) {
	m := someMap()
	x := m.said(t, 1, keyM)
	a := ask{t, "P13.4", 1, m.root(1)}
	path, _ := a.path(keyM, x.raw())
	for _, height := range []int{0, 1, 2, 9, 128, 255, 256} {
		y := x.meets(t, height, height+7, false)
		other, _ := a.path(keyM, y.raw())
		one, two, is := a.extract(keyM, x.raw(), y.raw())
		if !is || cutSum(1, one) != path[height] || cutSum(1, two) != other[height] {
			t.Errorf("P13.4: height %d: %x, %x, %t; the paths have %x, %x", height, one, two, is, path[height], other[height])
		}
	}
}
