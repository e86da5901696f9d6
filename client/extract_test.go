package client_test

import (
	"bytes"
	"slices"
	"testing"

	"ledger/api"
)

// met asks for two texts of two proofs that meet at a height, in both orders, and holds them against the two paths' texts there.
func (a ask) met(x, y saying, height int) {
	a.Helper()
	xs, ys := x.texts(x.foot()), y.texts(y.foot())
	if bytes.Equal(xs[height], ys[height]) || !slices.EqualFunc(xs[height+1:], ys[height+1:], bytes.Equal) {
		a.Fatalf("P13.8: the paths do not meet at the height %d", height)
	}
	if one, two, is := a.extract(x.key, x.raw(), y.raw()); !is || !bytes.Equal(one, xs[height]) || !bytes.Equal(two, ys[height]) {
		a.Errorf("P13.8: width %d, height %d: %x, %x, %t, want %x, %x", a.w, height, one, two, is, xs[height], ys[height])
	}
	if one, two, is := a.extract(x.key, y.raw(), x.raw()); !is || !bytes.Equal(one, ys[height]) || !bytes.Equal(two, xs[height]) {
		a.Errorf("P13.8: width %d, height %d, the other way round: %x, %x, %t, want %x, %x", a.w, height, one, two, is, ys[height], xs[height])
	}
}

// P13.8: unlike answers, met at each height there is.
func TestExtractOfUnlikeAnswers(t *testing.T) {
	m := someMap()
	for _, k := range []api.Key{keyM, keyC} {
		x := m.said(t, 1, k)
		a := ask{t, "P13.8", 1, m.root(1)}
		for height := range 257 {
			a.met(x, x.meets(t, height, height, false), height)
		}
	}
}

// P13.8: alike answers: only what lies beside the path is another one.
func TestExtractOfAlikeAnswers(t *testing.T) {
	m := someMap()
	for _, k := range []api.Key{keyM, keyC} {
		x := m.said(t, 1, k)
		a := ask{t, "P13.8", 1, m.root(1)}
		for height := 2; height <= 256; height++ {
			a.met(x, x.meets(t, height, height, true), height)
		}
	}
}

// P13.8: the paths meet low, part again by a neighbour further up, and meet again: the greatest height is the one that counts.
func TestExtractTakesTheGreatestHeight(t *testing.T) {
	m := someMap()
	a := ask{t, "P13.8", 1, m.root(1)}
	for _, hs := range [][]int{{0, 5}, {0, 256}, {3, 40}, {7, 255}, {100, 101}, {200, 256}} {
		x := m.said(t, 1, keyM)
		y := x.meets(t, hs[0], 1, false)
		z := y.meets(t, hs[1], 1, true)
		// Between the two heights another neighbour stands: z is not y, and its path leaves x's there again.
		a.met(x, z, hs[1])
		a.met(y, z, hs[1])
		a.met(x, y, hs[0])
	}
}

// P13.8: a key that is there against one that is not, at the height 0, where a leaf has the digest of the byte 2.
func TestExtractOfFoundAndNot(t *testing.T) {
	m := someMap()
	for w := 1; w <= 2; w++ {
		x := m.said(t, w, keyC)
		if x.answer.Found {
			t.Fatal("keyC is not there")
		}
		y := x.meets(t, 0, 9, false)
		a := ask{t, "P13.8", w, m.root(w)}
		a.met(x, y, 0)
		if one, two, _ := a.extract(keyC, x.raw(), y.raw()); !bytes.Equal(one, []byte{2}) || len(two) < 33 || two[0] != 0 || !bytes.Equal(two[1:33], keyC[:]) {
			t.Errorf("P13.8: %x, %x", one, two)
		}
	}
}

// P13.8: at the width 2, too; the texts have five bytes there.
func TestExtractAtTheWidthTwo(t *testing.T) {
	m := someMap()
	x := m.said(t, 2, keyM)
	a := ask{t, "P13.8", 2, m.root(2)}
	for _, height := range []int{0, 1, 2, 100, 255, 256} {
		y := x.meets(t, height, height, false)
		a.met(x, y, height)
		if one, two, _ := a.extract(keyM, x.raw(), y.raw()); height > 0 && (len(one) != 5 || len(two) != 5 || one[0] != 1 || two[0] != 1) {
			t.Errorf("P13.8: %x, %x", one, two)
		}
	}
}

// P13.8: nothing comes of equal bytes, nor of proofs of which one or the other does not hold.
func TestExtractOfNothing(t *testing.T) {
	m := someMap()
	x := m.said(t, 1, keyM)
	y := x.meets(t, 30, 1, false)
	other := m.behind(put(keyM, "other"))
	for i := 0; other.root(1) == m.root(1); i++ {
		other[keyM] = string(text(i, 9))
	}
	a := ask{t, "P13.8", 1, m.root(1)}
	wrong := [][]byte{nil, {}, {2}, x.raw()[1:], append(x.raw(), 0), x.raw()[:len(x.raw())-1], other.raw(1, keyM)}
	beyond, empty := full(1, 3), full(1, 3)
	beyond.Sums[9][1] = 1
	empty.Sums[255] = emptySum(1, 255)
	wrong = append(wrong, rawOf(beyond), rawOf(empty), rawOf(full(1, 3)))
	for _, held := range [][]byte{x.raw(), y.raw()} {
		if _, _, is := a.extract(keyM, held, slices.Clone(held)); is {
			t.Errorf("P13.8: equal bytes")
		}
		for _, raw := range wrong {
			if _, e := a.verify(keyM, raw); e == api.OK {
				t.Fatalf("P13.8: %x holds", raw)
			}
			for _, both := range [][2][]byte{{held, raw}, {raw, held}, {raw, raw}} {
				if one, two, is := a.extract(keyM, both[0], both[1]); one != nil || two != nil || is {
					t.Errorf("P13.8: of proofs that do not hold: %x, %x, %t", one, two, is)
				}
			}
		}
	}
	// Two unlike proofs that hold, but not under this root, nor for this key.
	if _, _, is := (ask{t, "P13.8", 1, api.Digest{m.root(1)[0] ^ 1}}).extract(keyM, x.raw(), y.raw()); is {
		t.Errorf("P13.8: under another root")
	}
	if _, _, is := (ask{t, "P13.8", 1, api.Digest{m.root(1)[0], 1}}).extract(keyM, x.raw(), y.raw()); is {
		t.Errorf("P13.8: under a root with a byte behind the width")
	}
	strangers := 0
	for bit := range 256 {
		if _, _, is := a.extract(flipped(keyM, bit), x.raw(), y.raw()); !is {
			strangers++
		}
	}
	if strangers < 128 {
		t.Errorf("P13.8: of %d keys the proofs do not hold", strangers)
	}
}
