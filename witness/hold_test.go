package witness_test

import (
	"bytes"
	"maps"
	"math/rand"
	"slices"
	"testing"

	"ledger/api"
)

// clone tells a claim that may be changed by itself.
func (c *claim) clone() *claim {
	return &claim{c.w, c.keys, maps.Clone(c.answers), maps.Clone(c.beside)}
}

// full tells a claim that gives every digest of which its bitmaps speak, drawn ones.
func full(w, seed int, keys []api.Key) *claim {
	c := nothing(w, keys)
	for i, k := range keys {
		if (i+seed)%3 > 0 {
			c.answers[k] = api.Answer{Found: true, Val: []byte(text(seed+i, seed%129))}
		}
	}
	for i, row := range c.neighbours() {
		c.beside[row] = besides(w, 256-len(row), seed+i)
	}
	return c
}

// drawnClaim tells a claim that gives some digests.
func drawnClaim(rnd *rand.Rand, w int, keys []api.Key) *claim {
	c := nothing(w, keys)
	for _, k := range keys {
		if rnd.Intn(2) == 0 {
			c.answers[k] = api.Answer{Found: true, Val: []byte(text(rnd.Intn(99), rnd.Intn(5)))}
		}
	}
	for _, row := range c.neighbours() {
		if rnd.Intn(4) == 0 {
			c.beside[row] = besides(w, 256-len(row), rnd.Intn(999))
		}
	}
	return c
}

// P22.3, P22.4: witnesses of every form with all digests that they can have, and with drawn ones, hold under the root to which their digests lead, and under no other.
func TestHoldsUnderItsRoot(t *testing.T) {
	rnd := drawn(3)
	for _, w := range []int{1, 4, 31, 32} {
		for i, keys := range formLists() {
			for _, c := range []*claim{full(w, i, keys), drawnClaim(rnd, w, keys), nothing(w, keys)} {
				a, raw := ask{t, "P22.3", w, c.root()}, c.raw()
				as, e := a.verify(keys, raw)
				a.is("Verify", e, api.OK)
				for j, x := range as {
					if !sameAnswer(x, c.answers[keys[j]]) {
						t.Errorf("P22.4: width %d, list %d, key %d: %v", w, i, j, x)
					}
				}
				for _, at := range []int{0, w - 1, 31} {
					other := a.root
					other[at] ^= 1
					_, e := a.at(other).verify(keys, raw)
					a.is("another root", e, api.ErrRoot)
				}
			}
		}
	}
}

// P22.3: under another root, of which the last byte alone is another, every call refuses.
func TestAnotherRoot(t *testing.T) {
	m := someMap()
	for i, keys := range formLists() {
		w := []int{4, 32, 1}[i%3]
		raw := m.raw(w, keys...)
		for _, x := range [][2]int{{31, 1}, {31, 128}, {w - 1, 1}, {0, 1}} {
			root := m.root(w)
			root[x[0]] ^= byte(x[1])
			a := ask{t, "P22.3", w, root}
			_, e := a.verify(keys, raw)
			a.is("Verify", e, api.ErrRoot)
			_, e = a.gather(keys, m.proofs(w, keys...))
			a.is("Gather", e, api.ErrRoot)
			_, e = a.step(raw, batchOf(del(keys[0])))
			if len(keys) == 1 {
				a.is("Step", e, api.ErrRoot)
			}
			_, e = a.renew(keys, raw, nil, batchOf())
			a.is("Renew", e, api.ErrRoot)
			_, e = a.renew(nil, nil, m.raw(w, keys[0]), batchOf(put(keys[0], "x")))
			a.is("Renew by it", e, api.ErrRoot)
		}
		of(t, "P22.3", w, m).takes(m, keys, raw)
	}
}

// P22.3: a value, an absence or a side that is exchanged leads elsewhere.
func TestExchangedTexts(t *testing.T) {
	a := of(t, "P22.3", 4, exampleMap())
	a.refused("the values exchanged", []api.Key{keyK, keyB}, join(fork, bitmap(), found("y"), bitmap(), found("x"), bitmap()), example2, api.ErrRoot)
	a.refused("one not there", []api.Key{keyK, keyB}, join(fork, bitmap(), found("x"), bitmap(), missing, bitmap()), example2, api.ErrRoot)
	a.refused("an empty value", []api.Key{keyK, keyB}, join(fork, bitmap(), found("x"), bitmap(), found(""), bitmap()), example2, api.ErrRoot)
	a.refused("the sides exchanged", []api.Key{keyC, keyK}, join(fork, bitmap(255), up(keyB, "y", 255), missing, bitmap(), found("x"), bitmap()), example3, api.ErrRoot)
	a.refused("the other neighbour", []api.Key{keyC, keyK}, join(fork, bitmap(255), up(keyK, "x", 255), found("x"), bitmap(), missing, bitmap()), example3, api.ErrRoot)
	a.refused("a neighbour too few", []api.Key{keyC, keyK}, join(fork, bitmap(), found("x"), bitmap(), missing, bitmap()), example3, api.ErrRoot)
	a.refused("the other key's", []api.Key{keyK}, exampleB, exampleK, api.ErrRoot)
}

// P22.5: the single proof of each key of a list is the one that chapter 12 makes, byte for byte; another key is refused.
func TestPartsAreTheKeysOwnProofs(t *testing.T) {
	m := someMap()
	rnd := drawn(5)
	for _, w := range []int{1, 4, 32} {
		r := created(t, 900, w, 40)
		r.commit(m.puts()...)
		a := of(t, "P22.5", w, m)
		for _, keys := range append(formLists(), m.lists(rnd)...) {
			raw := m.raw(w, keys...)
			for i, k := range keys {
				if len(keys) > 10 && i%9 > 0 {
					continue
				}
				part, e := a.part(keys, raw, k)
				if a.is("Part", e, api.OK); !bytes.Equal(part, r.proofs(1, k)[0]) {
					t.Errorf("P22.5: width %d: key %d of %d: %s", w, i, len(keys), some(part))
				}
			}
			for _, k := range []api.Key{{77}, flipped(keyM, 99), flipped(keyZ, 255)} {
				if !slices.Contains(keys, k) {
					_, e := a.part(keys, raw, k)
					a.is("a key that is not in the list", e, api.ErrKey)
				}
			}
		}
	}
}

// P22.5: Part asks for no root, and says what the witness says, whatever that is.
func TestPartsOfAnyClaim(t *testing.T) {
	rnd := drawn(7)
	for _, w := range []int{1, 4, 32} {
		a := ask{t, "P22.5", w, api.Digest{}}
		for i, keys := range formLists() {
			for _, c := range []*claim{full(w, i, keys), drawnClaim(rnd, w, keys)} {
				for _, k := range keys {
					part, e := a.part(keys, c.raw(), k)
					a.is("Part", e, api.OK)
					_, e = a.at(c.root()).verify([]api.Key{k}, part)
					a.is("Verify of the part", e, api.OK)
				}
			}
		}
	}
}

// P22.5, P22.6: at a small width a place that holds keys may have the empty subtree's digest: it is not written out, in a part nor in a witness.
func TestNeighboursThatSeemEmpty(t *testing.T) {
	const w = 1
	seen := 0
	for i := range 40 {
		m := entries{keyK: text(i, 3), keyB: text(i+50, 4), keyC: text(i, i)}
		empty := loneSum(w, keyB, m[keyB], 255) == emptySum(w, 255)
		a := of(t, "P22.5", w, m)
		for _, keys := range [][]api.Key{{keyK, keyB}, {keyC, keyK}, {keyK, keyB, keyC}} {
			raw, e := a.gather(keys, m.proofs(w, keys...))
			a.is("Gather", e, api.OK)
			a.takes(m, keys, raw)
			part, e := a.part(keys, raw, keyK)
			a.is("Part", e, api.OK)
			at := len(found(m[keyK]))
			if set := part[at+31]&128 != 0; set == empty {
				t.Errorf("P22.5: %d: the bit of 255 is set: %t, though the neighbour seems empty: %t", i, set, empty)
			}
		}
		if empty {
			seen++
		}
	}
	if seen == 0 || seen == 40 {
		t.Errorf("%d of 40 neighbours seem empty", seen)
	}
}
