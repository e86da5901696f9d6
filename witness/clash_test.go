package witness_test

import (
	"bytes"
	"testing"

	"ledger/api"
	"ledger/client"
	"ledger/witness"
)

// clashLists tells lists of several forms.
func clashLists() [][]api.Key {
	return [][]api.Key{{keyM}, {flipped(keyM, 7)}, {keyB, keyK}, {keyK, keyC}, {keyZ, keyM, flipped(keyM, 255)}, {flipped(keyM, 254), flipped(keyM, 255), keyC, keyZ, keyK}}
}

// P22.10, W10: at width 1 two witnesses that hold under one root with unlike answers are soon found: two unlike texts with one digest are made out of them, those of the lowest key whose answers are unlike.
func TestClashOfUnlikeAnswers(t *testing.T) {
	const w = 1
	m := someMap()
	a := of(t, "P22.10", w, m)
	rnd := drawn(53)
	for _, keys := range clashLists() {
		honest := m.claim(w, keys)
		for _, k := range keys {
			forged := meeting(t, rnd, honest, otherAnswer(rnd, k))
			x, y, is := a.clash(keys, honest.raw(), forged.raw())
			if !is || bytes.Equal(x, y) || cutSum(w, x) != cutSum(w, y) {
				t.Errorf("P22.10: %d keys: %x, %x, %t", len(keys), x, y, is)
			}
			v, u, is := a.clash(shuffled(rnd, keys), forged.raw(), honest.raw())
			if !is || !bytes.Equal(x, u) || !bytes.Equal(y, v) {
				t.Errorf("P22.10: the other way about: %x, %x, %t", v, u, is)
			}
			one, _ := witness.Part(w, keys, honest.raw(), k)
			two, _ := witness.Part(w, keys, forged.raw(), k)
			x2, y2, is := client.Extract(w, a.root, k, one, two)
			if !is || !bytes.Equal(x, x2) || !bytes.Equal(y, y2) {
				t.Errorf("P22.10: Extract of the parts: %x, %x, %t", x2, y2, is)
			}
		}
	}
}

// P22.10: of several keys whose answers are unlike the lowest one is taken; what is not there is unlike an empty value.
func TestClashAtTheLowestKey(t *testing.T) {
	const w = 1
	m := entries{keyK: "k", keyC: "", keyB: "b"}
	a := of(t, "P22.10", w, m)
	rnd := drawn(59)
	keys := []api.Key{keyB, keyM, keyC, keyK}
	honest := m.claim(w, keys)
	for range 12 {
		both := meeting(t, rnd, honest, func(x *claim) {
			otherAnswer(rnd, keyB)(x)
			otherAnswer(rnd, keyM)(x)
		})
		x, y, is := a.clash(keys, honest.raw(), both.raw())
		one, _ := witness.Part(w, keys, honest.raw(), keyM)
		two, _ := witness.Part(w, keys, both.raw(), keyM)
		x2, y2, is2 := client.Extract(w, a.root, keyM, one, two)
		if !is || !is2 || !bytes.Equal(x, x2) || !bytes.Equal(y, y2) {
			t.Errorf("P22.10: %x, %x, %t, want %x, %x", x, y, is, x2, y2)
		}
	}
	for _, k := range []api.Key{keyC, keyM} {
		// An empty value where there is nothing, or the other way about, with a neighbour that makes up for it.
		forged := meeting(t, rnd, honest, func(x *claim) {
			if x.answers[k].Found {
				x.answers[k] = api.Answer{}
			} else {
				x.answers[k] = api.Answer{Found: true}
			}
			otherNeighbours(rnd, keyM, 3+rnd.Intn(200), 253)(x)
		})
		if _, _, is := a.clash(keys, honest.raw(), forged.raw()); !is {
			t.Errorf("P22.10: an empty value and none")
		}
	}
}

// P22.10: nothing, where the answers are alike, though the neighbours are not; where one does not hold; where the list or the width is refused.
func TestNoClash(t *testing.T) {
	const w = 1
	m := someMap()
	a := of(t, "P22.10", w, m)
	rnd := drawn(61)
	none := func(what string, a ask, keys []api.Key, p1, p2 []byte) {
		t.Helper()
		if x, y, is := a.clash(keys, p1, p2); is || x != nil || y != nil {
			t.Errorf("P22.10: %s: %x, %x, %t", what, x, y, is)
		}
		if x, y, is := a.clash(keys, p2, p1); is || x != nil || y != nil {
			t.Errorf("P22.10: %s, the other way about: %x, %x, %t", what, x, y, is)
		}
	}
	none("no keys", a, nil, nil, nil)
	none("no keys, a byte", a, nil, nil, missing)
	for _, keys := range clashLists() {
		honest := m.claim(w, keys)
		raw := honest.raw()
		none("one twice", a, keys, raw, raw)
		k := inOrder(keys)[len(keys)-1]
		alike := meeting(t, rnd, honest, otherNeighbours(rnd, k, 40, 253-len(keys)))
		none("other neighbours", a, keys, raw, alike.raw())
		forged := meeting(t, rnd, honest, otherAnswer(rnd, k)).raw()
		if _, _, is := a.clash(keys, raw, forged); !is {
			t.Errorf("P22.10: no clash")
		}
		none("another root", a.at(api.Digest{0: a.root[0] ^ 1}), keys, raw, forged)
		none("a root beyond the width", a.at(api.Digest{0: a.root[0], 31: 1}), keys, raw, forged)
		none("a byte more", a, keys, raw, append(forged, 0))
		none("nothing", a, keys, raw, nil)
		none("another key", a, append([]api.Key{{99}}, keys...), raw, forged)
		none("a key twice", a, append(keys[:1:1], keys...), raw, forged)
		broken := honest.clone()
		broken.answers[k] = api.Answer{Found: true, Val: []byte("does it hold?")}
		if broken.root() != a.root {
			none("one that does not hold", a, keys, raw, broken.raw())
		}
		for _, width := range []int{0, 33, -1, lowest, highest} {
			if x, y, is := witness.Clash(width, a.root, keys, raw, forged); is || x != nil || y != nil {
				t.Errorf("P22.10: width %d", width)
			}
		}
	}
}
