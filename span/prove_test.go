package span_test

import (
	"fmt"
	"slices"
	"testing"

	"ledger/api"
	"ledger/span"
)

// someMap tells a map whose keys part high and low.
func someMap() entries {
	return entries{
		keyM: "m", flipped(keyM, 0): "a", flipped(keyM, 3): "", flipped(keyM, 40): string(text(1, 128)),
		flipped(keyM, 254): "d", keyA: "k", keyB: "y", keyZ: "z",
	}
}

// spansOf tells spans whose ends lie on keys, beside them and at the ends of all.
func spansOf(keys ...api.Key) (all [][2]api.Key) {
	ends := entries{keyA: "", keyC: "", keyB: "", keyZ: ""}
	for _, k := range keys {
		for _, by := range []int64{-1, 0, 1} {
			ends[moved(k, by)] = ""
		}
	}
	rising := ends.rising()
	for i, lo := range rising {
		for _, hi := range rising[i:] {
			all = append(all, [2]api.Key{lo, hi})
		}
	}
	return all
}

// every asks for a map's spans: the bytes by the map and by the pages, and what Verify shows of them (P14.1, P14.2, P14.5).
func (r *rig) every(root int, m entries, spans [][2]api.Key) {
	r.Helper()
	for _, at := range spans {
		want := m.proof(r.width(), at[0], at[1])
		r.proves(root, at[0], at[1], want)
		r.asRead(root, at[0], at[1])
		ask{r.T, "P14.5: " + r.promise, r.width(), m.root(r.width()), at[0], at[1]}.shows(want, m.between(at[0], at[1]))
	}
}

// P14.1: maps of no key, one, two and more, over all spans of their keys and what lies beside them.
func TestSpansOfSmallMaps(t *testing.T) {
	for _, w := range []int{1, 2, 4, 32} {
		for i, m := range []entries{
			{}, {keyA: "a"}, {keyZ: ""}, {keyM: string(text(1, 128))},
			{keyA: "a", keyZ: "z"}, {keyA: "a", keyC: "c"}, {keyZ: "z", moved(keyZ, -1): "y"}, {keyM: "m", flipped(keyM, 9): "n"},
			{keyA: "a", keyB: "b", moved(keyB, -1): "c"}, {keyM: "m", flipped(keyM, 255): "n", flipped(keyM, 7): "o"},
		} {
			r := begun(t, fmt.Sprintf("P14.1: width %d, map %d", w, i), 1200, w)
			root := r.grown(m)
			r.quiet(func() { r.every(root, m, spansOf(m.rising()...)) })
		}
	}
}

// P14.1: a greater map.
func TestSpansOfAMap(t *testing.T) {
	m := someMap()
	for _, w := range []int{1, 3, 32} {
		r := begun(t, fmt.Sprintf("P14.1: width %d", w), 1200, w)
		root := r.grown(m)
		r.quiet(func() { r.every(root, m, spansOf(keyM, keyB, flipped(keyM, 3))) })
	}
}

// P14.1, P14.2: the empty tree is one byte, whatever the span is, and nothing is looked at.
func TestEmptyTree(t *testing.T) {
	r := begun(t, "P14.1: the empty tree", 40, 32)
	loads := r.loads()
	for _, at := range spansOf(keyM) {
		r.proves(0, at[0], at[1], []byte{0})
	}
	if r.loads() != loads {
		t.Errorf("P14.2: the empty tree: a page was looked at")
	}
}

// P14.1: of one key the whole proof is its lone text, whether or not the key lies in the span.
func TestOneKey(t *testing.T) {
	for _, k := range []api.Key{keyA, keyC, keyM, keyB, keyZ} {
		for _, val := range []string{"", "v", string(text(3, 128))} {
			r := begun(t, "P14.1: one key", 40, 32)
			root := r.update(0, put(k, val))
			for _, at := range spansOf(keyM, k) {
				r.proves(root, at[0], at[1], loneText(k, val))
			}
		}
	}
}

// P14.1: one neighbour at each height, on either side: which of them are outside is told by the span alone.
func TestNeighboursAtEachHeight(t *testing.T) {
	for _, bit := range []int{0, 1, 7, 8, 128, 254, 255} {
		m := entries{keyM: "m", flipped(keyM, bit): "n"}
		r := begun(t, fmt.Sprintf("P14.1: they part at the bit %d", bit), 600, 32)
		root := r.grown(m)
		for _, at := range spansOf(keyM, flipped(keyM, bit)) {
			r.proves(root, at[0], at[1], m.proof(32, at[0], at[1]))
		}
		// Of the span of one key alone the other key's half is outside: a sum, with nones above it.
		got, e := span.Prove(r.s, root, keyM, keyM)
		if e != api.OK || len(got) != bit+1+len(loneText(keyM, "m"))+33+bit {
			t.Errorf("P14.1: they part at the bit %d: %d bytes, %v", bit, len(got), e)
		}
	}
}

// marks counts the texts of each kind in a proof that holds.
func marks(t *testing.T, w int, root api.Digest, lo, hi api.Key, raw []byte) (counts [4]int) {
	t.Helper()
	whole, _, e := heard(w, root, lo, hi, raw)
	if e != api.OK {
		t.Fatalf("the proof does not hold: %v", e)
	}
	var count func(s *said)
	count = func(s *said) {
		if counts[s.mark]++; s.mark == 3 {
			count(s.left)
			count(s.right)
		}
	}
	count(whole)
	return counts
}

// P14.3: as many sums as there may be: a neighbour outside at every height of both ends' paths.
func TestMostSums(t *testing.T) {
	lo, hi := moved(keyB, -1), keyB
	m := entries{lo: "lo", hi: "hi"}
	for bit := 1; bit < 256; bit++ {
		m[flipped(lo, bit)] = "l"
		m[flipped(hi, bit)] = "h"
	}
	r := begun(t, "P14.3", 2000, 32)
	root := r.grown(m)
	raw, e := span.Prove(r.s, root, lo, hi)
	if e != api.OK {
		t.Fatal(e)
	}
	sum := m.root(32)
	if n := marks(t, 32, sum, lo, hi, raw); n != [4]int{0, 510, 2, 511} {
		t.Errorf("P14.3: nones, sums, lones, pairs: %v", n)
	}
	ask{t, "P14.5", 32, sum, lo, hi}.shows(raw, m.between(lo, hi))
	all, e := span.Prove(r.s, root, keyA, keyZ)
	if e != api.OK {
		t.Fatal(e)
	}
	if n := marks(t, 32, sum, keyA, keyZ, all); n != [4]int{0, 0, 512, 511} {
		t.Errorf("P14.3: of the span of all keys: nones, sums, lones, pairs: %v", n)
	}
	ask{t, "P14.5", 32, sum, keyA, keyZ}.shows(all, m.between(keyA, keyZ))
}

// P14.3: two lone texts more than entries, and no more.
func TestMostLones(t *testing.T) {
	m := entries{keyOf("000"): "a", keyOf("1111"): "b", keyOf("011"): "c", keyOf("1"): "d"}
	for _, c := range []struct {
		lo, hi api.Key
		want   [4]int
	}{
		{keyOf("001"), keyOf("111"), [4]int{0, 0, 4, 3}},
		{keyOf("0111"), keyOf("1001"), [4]int{0, 2, 2, 3}},
		{keyOf("011"), keyOf("1"), [4]int{0, 2, 2, 3}},
		{keyOf("0001"), keyOf("001"), [4]int{0, 2, 1, 2}},
	} {
		r := begun(t, "P14.3", 40, 32)
		root := r.grown(m)
		raw, e := span.Prove(r.s, root, c.lo, c.hi)
		if n := marks(t, 32, m.root(32), c.lo, c.hi, raw); n != c.want || e != api.OK {
			t.Errorf("P14.3: from %x to %x: nones, sums, lones, pairs: %v, want %v", c.lo, c.hi, n, c.want)
		}
	}
}

// P14.1, P14.3: the counts over many spans and widths.
func TestCountsOfTexts(t *testing.T) {
	m := someMap()
	for _, w := range []int{1, 32} {
		r := begun(t, "P14.3", 1200, w)
		root, sum := r.grown(m), m.root(w)
		for _, at := range spansOf(keyM, keyB) {
			raw, e := span.Prove(r.s, root, at[0], at[1])
			if e != api.OK {
				t.Fatal(e)
			}
			n := marks(t, w, sum, at[0], at[1], raw)
			if most := len(m.between(at[0], at[1])) + 2; n[1] > 512 || n[2] > most {
				t.Errorf("P14.3: width %d, from %x to %x: %d sums, %d lone texts, want at most 512, %d", w, at[0], at[1], n[1], n[2], most)
			}
		}
	}
}

// emptyLike tells an entry of the key's row whose subtree, at this height, has the empty one's digest.
func emptyLike(t *testing.T, w int, row string) (api.Key, string) {
	t.Helper()
	for i := range 1000 {
		k := keyOf(row + fmt.Sprintf("%012b", i))
		if val := fmt.Sprint("e", i); loneSum(w, k, val, 256-len(row)) == emptySum(w, 256-len(row)) {
			return k, val
		}
	}
	t.Fatalf("no lone subtree of the row %q has the empty one's digest", row)
	return api.Key{}, ""
}

// P14.1: outside it is the digest that counts: keys whose subtree looks empty are none there, and what stands beside them is told as if it were alone.
func TestOutsideAsIfEmpty(t *testing.T) {
	const w = 1
	k, val := emptyLike(t, w, "0")
	b, c := keyOf("10"), keyOf("11")
	r := begun(t, "P14.1: a subtree that looks empty", 60, w)
	// A none and a lone: the lone text.
	m := entries{k: val, b: "b"}
	root := r.grown(m)
	r.proves(root, keyB, keyZ, loneText(b, "b"))
	r.proves(root, c, c, loneText(b, "b"))
	r.every(root, m, spansOf(k, b))
	// A none and a pair: a pair.
	m = entries{k: val, b: "b", c: "c"}
	root = r.grown(m)
	r.proves(root, keyB, keyZ, pairText(noneText(), pairText(loneText(b, "b"), loneText(c, "c"))))
	r.every(root, m, spansOf(k, b, c))
	// A none and a none: none. The right half is touched, and has no key; the left half looks empty, and has two.
	other, otherVal := emptyLike(t, w, "01")
	k, val = emptyLike(t, w, "00")
	m = entries{k: val, other: otherVal}
	root = r.grown(m)
	r.proves(root, keyB, keyZ, noneText())
	r.proves(root, other, other, loneText(other, otherVal))
	r.every(root, m, spansOf(k, other))
	ask{t, "P14.5", w, m.root(w), keyB, keyZ}.shows(noneText(), nil)
}

// P14.1: touched it is the keys that count: a lone key stays though its subtree looks empty, and a branch of two.
func TestTouchedThoughItLooksEmpty(t *testing.T) {
	k, val := emptyLike(t, 1, "0")
	r := begun(t, "P14.1: a touched subtree that looks empty", 60, 1)
	m := entries{k: val, keyB: "b"}
	root := r.grown(m)
	r.proves(root, k, k, m.proof(1, k, k))
	r.proves(root, keyA, keyZ, pairText(loneText(k, val), loneText(keyB, "b")))
	r.proves(root, keyC, keyC, m.proof(1, keyC, keyC))
	if got := m.proof(1, keyC, keyC); got[0] == 0 {
		t.Errorf("P14.1: %x: the lone key is left out", got)
	}
	top, topVal := emptyLike(t, 1, "")
	one := r.update(0, put(top, topVal))
	for _, at := range spansOf(top) {
		r.proves(one, at[0], at[1], loneText(top, topVal))
	}
}

// P14.1: an outside subtree of many keys and heights: its digest is what the branch states.
func TestOutsideSubtrees(t *testing.T) {
	m := entries{}
	for i := range 40 {
		m[keyOf(fmt.Sprintf("%06b", i))] = fmt.Sprint(i)
	}
	r := begun(t, "P14.1", 200, 4)
	root := r.grown(m)
	for _, at := range [][2]string{{"0001", "001"}, {"01", "0101"}, {"001101", "001101"}, {"1", "11"}, {"1001", "101"}, {"110", "111"}, {"00001", "1"}, {"100111", "111111"}} {
		lo, hi := keyOf(at[0]), keyOf(at[1])
		spans := [][2]api.Key{{lo, hi}, {lo, moved(hi, 1)}, {moved(lo, -1), hi}}
		if lo != hi {
			spans = append(spans, [2]api.Key{moved(lo, 1), moved(hi, -1)})
		}
		r.every(root, m, spans)
	}
}

// P14.2: from a tree in whose pages nothing is staged any more, and one of which some is.
func TestStagedAndFlushed(t *testing.T) {
	m := someMap()
	r := begun(t, "P14.2: staged", 1200, 4)
	root := r.grown(m)
	spans := spansOf(keyM)
	r.every(root, m, spans)
	r.flush()
	r.promise = "P14.2: flushed"
	r.every(root, m, spans)
	cs := []api.Change{del(keyM), put(flipped(keyM, 100), "new")}
	behind := r.update(root, cs...)
	r.promise = "P14.2: some is staged"
	r.every(behind, m.behind(cs), spans)
	r.every(root, m, spans)
}

// P14.1: Prove's bytes are Verify's only ones: every other text of the same place is refused or shows something else.
func TestProofsAreTheLeast(t *testing.T) {
	m := someMap()
	for _, at := range spansOf(keyM) {
		raw := m.proof(32, at[0], at[1])
		a := ask{t, "P14.4", 32, m.root(32), at[0], at[1]}
		for _, i := range []int{0, 1, len(raw) / 2} {
			// One pair more around a text.
			for _, other := range [][]byte{slices.Insert(slices.Clone(raw), i, 3, 0), slices.Concat([]byte{3}, raw, []byte{0})} {
				if _, e := a.verify(other); e == api.OK {
					t.Errorf("P14.4: %x is taken as well as %x", other, raw)
				}
			}
		}
	}
}
