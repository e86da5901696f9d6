package proof_test

import (
	"fmt"
	"testing"

	"ledger/api"
)

// P12.2 at each width: the neighbours' digests have that many bytes.
func TestWidths(t *testing.T) {
	base := keyOf("0110100110010110")
	m := entries{base: "a", flipped(base, 0): "b", flipped(base, 1): "c", flipped(base, 9): "d", flipped(base, 20): "", flipped(base, 255): "f"}
	for w := 1; w <= 32; w++ {
		r := begun(t, fmt.Sprintf("P12.2: width %d", w), 600, w)
		root := r.grown(m)
		for k := range m {
			for _, asked := range []api.Key{k, flipped(k, 3), flipped(k, 21), flipped(k, 254)} {
				r.asRead(root, asked)
				r.proves(root, asked, m.proof(w, asked))
			}
		}
		p := m.proof(w, base)
		for _, sum := range p.Sums {
			if [32]byte(sum) != [32]byte(append(append([]byte{}, sum[:w]...), make([]byte, 32-w)...)) {
				t.Errorf("P12.2: width %d: a digest %x", w, sum)
			}
		}
		if w >= 4 && len(p.Sums) != len(m)-1 {
			t.Errorf("P12.2: width %d: %d digests", w, len(p.Sums))
		}
	}
}

// P12.3: at small widths neighbours with keys often have the empty subtree's digest: their bits are not set.
func TestNeighboursAsIfEmpty(t *testing.T) {
	stated, parted, named := 0, 0, 0
	for seed := range 120 {
		base := api.Key(text(seed, 32))
		r := begun(t, fmt.Sprintf("P12.3: seed %d", seed), 60, 1)
		m := entries{base: "a", flipped(base, 0): "b", flipped(base, 2): fmt.Sprint(seed)}
		root := r.grown(m)
		for _, k := range []api.Key{base, flipped(base, 0), flipped(base, 2), flipped(base, 3), flipped(base, 200), flipped(flipped(base, 0), 1)} {
			p, x := r.readProof(root, k)
			r.proves(root, k, p)
			r.proves(root, k, m.proof(1, k))
			for h := range 256 {
				if len(m.under(neighbourRow(k, h))) == 0 {
					continue
				}
				_, has := x.branches[h+1]
				switch {
				case p.Bits[h/8]>>(h%8)&1 == 1:
					named++
				case has:
					stated++
				default:
					parted++
				}
			}
		}
	}
	if stated < 50 || parted < 50 || named < 50 {
		t.Errorf("P12.3: %d stated neighbours and %d parted ones were as if empty, %d were named: the trees say too little", stated, parted, named)
	}
}

// P12.3: one case by its numbers: K's leaf, climbed, meets the empty subtree at width 1; the proof for B names nothing, and says the same as in the empty map.
func TestOneNeighbourAsIfEmpty(t *testing.T) {
	for n := range 256 {
		val := string([]byte{byte(n)})
		if loneSum(1, keyK, val, 255) != emptySum(1, 255) {
			continue
		}
		r := begun(t, "P12.3", 60, 1)
		root := r.update(0, put(keyK, val))
		r.proves(root, keyB, api.Proof{})
		r.proves(root, keyK, there(val, nil))
		both := r.update(root, put(keyB, "b"))
		r.proves(both, keyB, there("b", nil))
		return
	}
	t.Error("P12.3: no value meets the empty subtree")
}
