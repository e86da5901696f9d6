package witness_test

import (
	"bytes"
	"slices"
	"testing"

	"ledger/api"
	"ledger/witness"
)

// manyKeys tells so many keys in rising order: the last two share 255 bits.
func manyKeys(n int) (keys []api.Key) {
	for i := range n {
		keys = append(keys, numbered(300*i+1))
	}
	if n > 1 {
		keys[n-1] = flipped(keys[n-2], 255)
	}
	return keys
}

// orders tells a list in rising order, in falling order and in drawn ones.
func orders(keys []api.Key) [][]api.Key {
	falling := slices.Clone(keys)
	slices.Reverse(falling)
	return [][]api.Key{keys, falling, shuffled(drawn(1), keys), shuffled(drawn(2), keys)}
}

// P22.1, P22.4, P22.5, P22.6: lists of 0, 1, 2, 63 and 64 keys in several orders; Verify answers in the list's own.
func TestListsOfKeys(t *testing.T) {
	t.Parallel()
	m := entries{}
	for i, k := range manyKeys(64) {
		if i%3 > 0 {
			m[k] = text(i, i)
		}
	}
	for _, n := range []int{0, 1, 2, 3, 63, 64} {
		for i, keys := range orders(manyKeys(64)[64-n:]) {
			w := []int{32, 4, 1, 31}[i]
			a := of(t, "P22.1", w, m)
			want := m.raw(w, keys...)
			got, e := a.gather(keys, m.proofs(w, keys...))
			if a.is("Gather", e, api.OK); !bytes.Equal(got, want) {
				t.Errorf("P22.6: %d keys in the order %d: %s, want %s", n, i, some(got), some(want))
			}
			a.takes(m, keys, want)
			if n > 0 {
				part, e := a.part(keys, want, keys[n/2])
				if a.is("Part", e, api.OK); !bytes.Equal(part, m.raw(w, keys[n/2])) {
					t.Errorf("P22.5: %d keys in the order %d: %s", n, i, some(part))
				}
			}
		}
	}
}

// wrongKeys tells lists that are refused, and why: more than 64 ahead of a key twice.
func wrongKeys() (lists [][]api.Key, whys []api.Errno) {
	add := func(why api.Errno, keys ...api.Key) { lists, whys = append(lists, keys), append(whys, why) }
	all := manyKeys(65)
	add(api.ErrDup, keyK, keyK)
	add(api.ErrDup, keyK, keyB, keyK)
	add(api.ErrDup, keyB, keyK, keyK)
	add(api.ErrDup, keyB, keyB, keyK, keyC)
	add(api.ErrDup, append([]api.Key{all[63]}, all[1:64]...)...)
	add(api.ErrDup, append(slices.Clone(all[:63]), all[0])...)
	add(api.ErrDup, slices.Repeat([]api.Key{keyZ}, 64)...)
	add(api.ErrMany, all...)
	add(api.ErrMany, append(slices.Clone(all[:64]), all[0])...)
	add(api.ErrMany, append([]api.Key{all[1]}, all[1:]...)...)
	add(api.ErrMany, slices.Repeat([]api.Key{keyZ}, 65)...)
	add(api.ErrMany, manyKeys(200)...)
	return lists, whys
}

// P22.1: what a list is refused for, ahead of all that is wrong beside it.
func TestWrongLists(t *testing.T) {
	t.Parallel()
	m := exampleMap()
	lists, whys := wrongKeys()
	for i, keys := range lists {
		why := whys[i]
		for _, w := range []int{1, 4, 32} {
			for _, raw := range [][]byte{nil, missing, m.raw(w, keyK), m.raw(w, keyK, keyB)} {
				for _, root := range []api.Digest{m.root(w), {}, sumOf(32, 3)} {
					a := ask{t, "P22.1", w, root}
					_, e := a.verify(keys, raw)
					a.is("Verify", e, why)
					_, e = a.part(keys, raw, keyK)
					a.is("Part", e, why)
					_, e = a.part(keys, raw, keyM)
					a.is("Part of another", e, why)
					_, e = a.gather(keys, [][]byte{raw})
					a.is("Gather of too few", e, why)
					_, e = a.gather(keys, slices.Repeat([][]byte{raw}, len(keys)))
					a.is("Gather", e, why)
					for _, changes := range [][]byte{nil, {0, 0}, {65, 0}, batchOf(del(keyK)), batchOf(del(keyK), del(keyK))} {
						_, e = a.renew(keys, raw, raw, changes)
						a.is("Renew", e, why)
					}
					if _, _, is := a.clash(keys, raw, m.raw(w, keyB)); is {
						t.Errorf("P22.10: list %d: Clash", i)
					}
				}
			}
		}
	}
}

// A width that is not 1 to 32 is refused ahead of all else; 1 and 32 are not.
func TestWidths(t *testing.T) {
	m := exampleMap()
	lists, _ := wrongKeys()
	lists = append(lists, nil, []api.Key{keyK}, []api.Key{keyK, keyB})
	for _, w := range []int{lowest, -256, -33, -32, -4, -1, 0, 33, 34, 64, 256, 257, 1 << 32, 1<<32 + 4, highest} {
		for _, keys := range lists {
			for _, raw := range [][]byte{nil, {9}, exampleK, example2} {
				for _, changes := range [][]byte{nil, {0, 0}, {65, 0}, batchOf(put(keyK, "z"))} {
					a := ask{t, "the width", w, m.root(4)}
					_, e1 := witness.Verify(w, a.root, keys, raw)
					_, e2 := witness.Part(w, keys, raw, keyK)
					_, e3 := witness.Gather(w, a.root, keys, [][]byte{raw})
					d, e4 := witness.Step(w, a.root, raw, changes)
					_, e5 := witness.Renew(w, a.root, keys, raw, raw, changes)
					_, _, is := witness.Clash(w, a.root, keys, raw, nil)
					if is || d != (api.Digest{}) {
						t.Errorf("width %d: Clash %t, Step %x", w, is, d)
					}
					for _, e := range []api.Errno{e1, e2, e3, e4, e5} {
						a.is("a call", e, api.ErrArg)
					}
				}
			}
		}
	}
	for w := 1; w <= 32; w++ {
		a := of(t, "the width", w, m)
		for _, keys := range [][]api.Key{nil, {keyK}, {keyC, keyB, keyK}} {
			raw, e := a.gather(keys, m.proofs(w, keys...))
			a.is("Gather", e, api.OK)
			a.takes(m, keys, raw)
		}
	}
}
