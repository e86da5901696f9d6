package span_test

import (
	"bytes"
	"fmt"
	"maps"
	"math/rand/v2"
	"slices"
	"testing"

	"ledger/api"
	"ledger/span"
)

// sprout draws a map of so many keys under a row.
func sprout(rnd *rand.Rand, row string, keys int) entries {
	m := entries{}
	for len(m) < keys {
		var k api.Key
		for i := range k {
			k[i] = byte(rnd.Uint32())
		}
		if len(m) > 0 && rnd.IntN(2) == 0 {
			k = flipped(m.rising()[0], pick(rnd, min(len(row), 255), 255, min(len(row)+rnd.IntN(256), 255)))
		}
		m[keyOf(row+bitsOf(k)[len(row):])] = fmt.Sprint(rnd.IntN(1 << 20))
	}
	return m
}

// halvesOf tells the digests of a map's halves under a row, of one key its leaf's text.
func (m entries) halvesOf(w int, row string) string {
	if len(row) == 256 {
		return fmt.Sprint(m.under(row))
	}
	l, r := m.sum(w, row+"0"), m.sum(w, row+"1")
	return string(l[:]) + string(r[:])
}

// meeting draws two maps under a row, of so many keys each, that have one digest there and unlike ones in its halves, if any meet.
func meeting(rnd *rand.Rand, w int, row string, keys, others int) (m, other entries, met bool) {
	seen := map[api.Digest]map[string]entries{}
	for range 3000 * w * w {
		m, other := sprout(rnd, row, keys), sprout(rnd, row, others)
		sum := m.sum(w, row)
		if seen[sum] == nil {
			seen[sum] = map[string]entries{}
		}
		if len(seen[sum]) < 2 {
			seen[sum][m.halvesOf(w, row)] = m
		}
		if list := seen[other.sum(w, row)]; len(list) > 0 {
			halves := other.halvesOf(w, row)
			for _, key := range slices.Sorted(maps.Keys(list)) {
				if key != halves {
					return list[key], other, true
				}
			}
		}
	}
	return nil, nil, false
}

// mustMeet draws two that meet.
func mustMeet(t *testing.T, rnd *rand.Rand, w int, row string, keys, others int) (m, other entries) {
	t.Helper()
	m, other, met := meeting(rnd, w, row, keys, others)
	if !met {
		t.Fatalf("width %d, beneath %d bits: no two maps of %d and %d keys meet", w, len(row), keys, others)
	}
	return m, other
}

// with tells a map with another one's entries.
func (m entries) with(other entries) entries {
	both := maps.Clone(m)
	maps.Copy(both, other)
	return both
}

// without tells a map without the entries under a row.
func (m entries) without(row string) entries {
	rest := maps.Clone(m)
	for k := range m.under(row) {
		delete(rest, k)
	}
	return rest
}

// P14.7: nothing, a lone key and more against one another, at heights high and low: the search ends where the halves part.
func TestClashHeights(t *testing.T) {
	around, found := someMap(), map[[2]int]int{}
	for _, w := range []int{1, 2} {
		for _, height := range []int{0, 1, 2, 3, 8, 50, 100, 200, 255, 256} {
			row := bitsOf(keyM)[:256-height]
			for _, keys := range [][2]int{{0, 1}, {1, 1}, {1, 2}, {0, 2}, {2, 2}, {2, 3}, {0, 3}} {
				if height == 0 && keys[1] > 1 || height == 1 && keys[1] > 2 || w == 2 && (keys != [2]int{1, 1} || height%4 > 0) {
					continue
				}
				rnd := rand.New(rand.NewPCG(uint64(height), uint64(10*keys[0]+keys[1])))
				m, other, met := meeting(rnd, w, row, keys[0], keys[1])
				if !met {
					continue // at a small width some heights know no digest that would do
				}
				found[keys]++
				for _, beside := range []entries{{}, around.without(row)} {
					m1, m2 := beside.with(m), beside.with(other)
					a := ask{t, fmt.Sprintf("P14.7: width %d, height %d, %d keys and %d", w, height, keys[0], keys[1]), w, m1.root(w), keyA, keyZ}
					a.meets(m1.proof(w, keyA, keyZ), m2.proof(w, keyA, keyZ), height)
					// From the lowest key of the row to its highest, and beyond on one side.
					a.lo, a.hi = keyOf(row), keyOf(row+bitsOf(keyZ)[len(row):])
					a.meets(m1.proof(w, a.lo, a.hi), m2.proof(w, a.lo, a.hi), height)
					a.hi = keyZ
					a.meets(m1.proof(w, a.lo, a.hi), m2.proof(w, a.lo, a.hi), height)
				}
			}
		}
	}
	for _, keys := range [][2]int{{0, 1}, {1, 1}, {1, 2}, {0, 2}, {2, 2}, {2, 3}, {0, 3}} {
		if found[keys] < 5 {
			t.Errorf("P14.7: %d and %d keys meet at %d heights: the maps say too little", keys[0], keys[1], found[keys])
		}
	}
}

// P14.7: it is the entries that lead down, not the texts: unlike texts that show nothing are passed by; of two sides that show unlike entries it is the left one.
func TestClashSides(t *testing.T) {
	const w = 1
	rnd := rand.New(rand.NewPCG(1, 14))
	for i := range 6 {
		height := []int{254, 200, 100, 30, 3, 1}[i]
		leftRow, rightRow := "0"+bitsOf(keyM)[1:256-height], "1"+bitsOf(keyM)[1:256-height]
		left, otherLeft := mustMeet(t, rnd, w, leftRow, 1, 1)
		right, otherRight := mustMeet(t, rnd, w, rightRow, 1, 1)
		m1, m2 := left.with(right), otherLeft.with(otherRight)
		promise := fmt.Sprintf("P14.7: height %d", height)
		a := ask{t, promise, w, m1.root(w), keyA, keyZ}
		a.meets(m1.proof(w, keyA, keyZ), m2.proof(w, keyA, keyZ), height)
		x, y, _ := span.Clash(w, a.root, keyA, keyZ, m1.proof(w, keyA, keyZ), m2.proof(w, keyA, keyZ))
		if wantX, wantY := left.preimage(w, leftRow), otherLeft.preimage(w, leftRow); !bytes.Equal(x, wantX) || !bytes.Equal(y, wantY) {
			t.Errorf("%s: %x, %x, want the left side's %x, %x", promise, x, y, wantX, wantY)
		}
		// Above the left side's keys, but in its row: both sides are touched, the right one alone shows something.
		lo := max(bitsOf(left.rising()[0]), bitsOf(otherLeft.rising()[0]))
		a.lo = moved(keyOf(lo), 1)
		p1, p2 := m1.proof(w, a.lo, keyZ), m2.proof(w, a.lo, keyZ)
		a.meets(p1, p2, height)
		x, y, _ = span.Clash(w, a.root, a.lo, keyZ, p1, p2)
		if wantX, wantY := right.preimage(w, rightRow), otherRight.preimage(w, rightRow); !bytes.Equal(x, wantX) || !bytes.Equal(y, wantY) {
			t.Errorf("%s: %x, %x, want the right side's %x, %x", promise, x, y, wantX, wantY)
		}
		// Only keys that are not shown are unlike: there is no clash, though the proofs are unlike and hold.
		m3 := otherLeft.with(right)
		p3 := m3.proof(w, a.lo, keyZ)
		if bytes.Equal(p1, p3) {
			t.Fatalf("%s: the proofs are alike", promise)
		}
		a.shows(p1, m1.between(a.lo, keyZ))
		a.shows(p3, m1.between(a.lo, keyZ))
		if a.clash(p1, p3) != -1 || a.clash(p3, p1) != -1 {
			t.Errorf("%s: they show the same", promise)
		}
	}
}

// preimage tells the text whose digest is that of a row with its halves.
func (m entries) preimage(w int, row string) []byte {
	l, r := m.sum(w, row+"0"), m.sum(w, row+"1")
	return slices.Concat([]byte{1}, l[:w], r[:w])
}

// P14.7: both must hold, under the same root, for the same span, at a width that is one.
func TestNoClash(t *testing.T) {
	const w = 1
	rnd := rand.New(rand.NewPCG(2, 14))
	m, other := mustMeet(t, rnd, w, "", 1, 2)
	p1, p2 := m.proof(w, keyA, keyZ), other.proof(w, keyA, keyZ)
	a := ask{t, "P14.7", w, m.root(w), keyA, keyZ}
	a.meets(p1, p2, 256)
	never := func(a ask, p1, p2 []byte) {
		t.Helper()
		if a.clash(p1, p2) != -1 || a.clash(p2, p1) != -1 {
			t.Errorf("P14.7: a clash of %x and %x", p1, p2)
		}
	}
	never(a, p1, p1)
	never(a, p2, p2)
	for _, wrong := range [][]byte{nil, {4}, {0, 0}, p1[:len(p1)-1], append(slices.Clone(p1), 0), p1[1:], sumText(a.root), pairText(p1, noneText())} {
		never(a, wrong, p2)
		never(a, p1, wrong)
		never(a, wrong, wrong)
	}
	if p := noneText(); a.root != emptySum(w, 256) {
		never(a, p, p2)
	}
	for bit := range 256 {
		b := a
		b.root = api.Digest(flipped(api.Key(a.root), bit))
		never(b, p1, p2)
	}
	for _, width := range append(wrongWidths(), 2, 32) {
		b := a
		b.w = width
		never(b, p1, p2)
	}
	for _, width := range wrongWidths() {
		// Of no bytes every digest would be zero.
		never(ask{t, "P14.7: no width", width, api.Digest{}, keyA, keyZ}, loneText(keyM, "m"), noneText())
	}
	for _, at := range crossed() {
		b := a
		b.lo, b.hi = at[0], at[1]
		never(b, p1, p2)
	}
	// An empty sum in one of them.
	b := ask{t, "P14.7", w, emptySum(w, 256), keyB, keyZ}
	never(b, pairText(sumText(emptySum(w, 255)), loneText(keyB, "b")), noneText())
}

// P14.7: entries that are unlike by a value, by a key, by their number, in long lists too.
func TestClashInLongLists(t *testing.T) {
	const w = 1
	rnd := rand.New(rand.NewPCG(3, 14))
	around := entries{}
	for i := range 64 {
		around[keyOf(fmt.Sprintf("%06b", i))] = fmt.Sprint(i)
	}
	for _, at := range []int{0, 1, 31, 32, 62, 63} {
		row := fmt.Sprintf("%06b", at)
		for _, keys := range [][2]int{{1, 1}, {0, 2}, {1, 2}} {
			m, other := mustMeet(t, rnd, w, row, keys[0], keys[1])
			m1, m2 := around.without(row).with(m), around.without(row).with(other)
			a := ask{t, fmt.Sprintf("P14.7: the row %s", row), w, m1.root(w), keyA, keyZ}
			a.meets(m1.proof(w, keyA, keyZ), m2.proof(w, keyA, keyZ), 250)
		}
	}
	// One key, and another value that begins as the first does.
	k := keyOf("000001")
	for i := range 10000 {
		one, two := fmt.Sprint("v", i), fmt.Sprint("v", i, ".")
		if leafSum(w, k, one) != leafSum(w, k, two) {
			continue
		}
		m1, m2 := around.with(entries{k: one}), around.with(entries{k: two})
		ask{t, "P14.7: a longer value", w, m1.root(w), keyA, keyZ}.meets(m1.proof(w, keyA, keyZ), m2.proof(w, keyA, keyZ), 0)
		return
	}
	t.Errorf("no two values meet")
}

// P14.7: drawn maps under one root, over drawn spans.
func TestDrawnClashes(t *testing.T) {
	const w = 1
	found, none := 0, 0
	for seed := range uint64(24) {
		rnd := rand.New(rand.NewPCG(seed, 15))
		keys := drawnKeys(rnd, 6)
		byRoot := map[api.Digest][]entries{}
		for range 60 {
			m := entries{}.behind(drawnList(rnd, keys, 10))
			for k := range m {
				m[k] += fmt.Sprint(rnd.IntN(1000))
			}
			byRoot[m.root(w)] = append(byRoot[m.root(w)], m)
		}
		for root, list := range byRoot {
			for i := range list[1:] {
				lo, hi := drawnSpan(rnd, keys)
				a := ask{t, fmt.Sprintf("P14.7: seed %d", seed), w, root, lo, hi}
				if a.clash(list[i].proof(w, lo, hi), list[i+1].proof(w, lo, hi)) >= 0 {
					found++
				} else {
					none++
				}
			}
		}
	}
	if found < 60 || none < 20 {
		t.Errorf("P14.7: %d clashes, %d without: the maps say too little", found, none)
	}
}
