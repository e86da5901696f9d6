package witness_test

import (
	"testing"

	"ledger/api"
)

// bound tells the most bytes that the witness for some keys may have (P22.13).
func (m entries) bound(w int, keys []api.Key) int {
	most := 68*len(keys) - 33
	for _, k := range keys {
		most += len(m[k])
	}
	nothing(w, keys).eachNeighbour(m.rising(), func(_ string, here []api.Key) {
		if len(here) > 0 {
			most += 32
		}
	})
	return most
}

// P22.13: a witness is short: never above the bound, and as long as that where no neighbour that holds a key seems empty and all keys are there.
func TestWitnessIsShort(t *testing.T) {
	t.Parallel()
	rnd := drawn(67)
	for i := range 40 {
		w := []int{32, 1, 4, 2}[i%4]
		m := drawnMap(rnd, 1+rnd.Intn(30))
		for _, keys := range [][]api.Key{shuffled(rnd, m.rising())[:1+rnd.Intn(len(m))], append(drawnKeys(rnd, 30), api.Key{99}), m.rising()} {
			a := of(t, "P22.13", w, m)
			raw, e := a.gather(keys, m.proofs(w, keys...))
			a.is("Gather", e, api.OK)
			most, all := m.bound(w, keys), true
			for _, k := range keys {
				_, has := m[k]
				all = all && has
			}
			if len(raw) > most || w == 32 && all && len(raw) != most {
				t.Errorf("P22.13: width %d: %d keys take %d bytes, the bound is %d", w, len(keys), len(raw), most)
			}
		}
	}
	m := entries{}
	for _, k := range manyKeys(64) {
		m[k] = text(1, 128)
	}
	if raw := m.raw(32, m.rising()...); len(raw) != 68*64-33+64*128 {
		t.Errorf("P22.13: 64 keys take %d bytes", len(raw))
	}
}
