package walk_test

import (
	"fmt"
	"testing"

	"ledger/api"
	"ledger/walk"
)

// wide makes a tree of so many keys, and tells its root and its map.
func wide(t *testing.T, promise string, keys int) (*rig, int, entries) {
	t.Helper()
	r := begun(t, promise, 4096)
	m := entries{}
	for i := range keys {
		m[keyOf(fmt.Sprintf("%011b1", i*7%2048))] = fmt.Sprint(i)
	}
	if len(m) != keys {
		t.Fatal(len(m))
	}
	return r, r.update(0, m.puts()...), m
}

// P11.5: limits around the number of entries that there are, up to the highest.
func TestScanLimits(t *testing.T) {
	for _, keys := range []int{1, 2, 3, 999, 1000, 1001, 1002, 1400} {
		r, root, m := wide(t, fmt.Sprintf("P11.5: %d keys", keys), keys)
		all := m.between(keyA, keyZ)
		for _, limit := range []int{0, 1, 2, keys - 1, keys, keys + 1, 998, 999, 1000} {
			if limit > api.MaxScan {
				r.scans(root, keyA, keyZ, limit, "", false, api.ErrArg)
				continue
			}
			list, more, e := walk.Scan(r.s, root, keyA, keyZ, limit)
			want := all[:min(limit, keys)]
			if told(list) != told(want) || more != (limit < keys) || e != api.OK {
				t.Errorf("P11.5: %d keys, limit %d: %d entries, %t, %v", keys, limit, len(list), more, e)
			}
			if limit < 4 || limit > keys-2 {
				r.asReadScan(root, keyA, keyZ, limit)
			}
		}
	}
}

// P11.5, P11.6: ends on keys, between them, beyond them; limits below, at and above the number of entries between them.
func TestScanEnds(t *testing.T) {
	r := begun(t, "P11.5", 900)
	base := keyOf("0110100110010110")
	m := entries{base: "a", flipped(base, 0): "b", flipped(base, 1): "c", flipped(base, 255): "", moved(base, 9): "f", keyOf("1111"): "g"}
	root := r.update(0, m.puts()...)
	ends := []api.Key{keyA, keyC, keyB, keyZ, flipped(base, 2), flipped(base, 100), flipped(base, 250)}
	for k := range m {
		ends = append(ends, moved(k, -1), k, moved(k, 1))
	}
	r.quiet(func() {
		for _, lo := range ends {
			for _, hi := range ends {
				if bitsOf(lo) > bitsOf(hi) {
					r.scans(root, lo, hi, 5, "", false, api.ErrRange)
					continue
				}
				want := m.between(lo, hi)
				for limit := range len(want) + 2 {
					some := want[:min(limit, len(want))]
					list, more, e := walk.Scan(r.s, root, lo, hi, limit)
					if told(list) != told(some) || more != (limit < len(want)) || e != api.OK {
						t.Errorf("P11.5: from %x to %x, limit %d: %s, %t, %v, want %s", lo, hi, limit, told(list), more, e, told(some))
					}
					r.asReadScan(root, lo, hi, limit)
				}
			}
		}
	})
}

// P11.6: nothing more is looked at once one entry more than the limit has been found, and not ahead of it either.
func TestScanStops(t *testing.T) {
	r, spoilt, right := spoiltTree(t, "P11.6")
	r.scans(spoilt, keyA, keyZ, 0, "", true, api.OK)
	r.scans(spoilt, keyA, keyZ, 1, "a", true, api.OK)
	r.scans(spoilt, keyA, keyZ, 2, "", false, api.ErrCorrupt)
	r.scans(spoilt, keyA, keyZ, 1000, "", false, api.ErrCorrupt)
	r.scans(right, keyA, keyZ, 2, "ac", true, api.OK)
	r.scans(right, keyA, keyZ, 3, "acb", false, api.OK)
	// What lies beyond hi is not looked at, and what lies ahead of lo neither.
	beyond := moved(keyOf("1"), -1)
	r.scans(spoilt, keyA, beyond, 2, "ac", false, api.OK)
	r.scans(spoilt, keyA, beyond, 1000, "ac", false, api.OK)
	r.scans(spoilt, keyA, keyOf("1"), 1000, "", false, api.ErrCorrupt)
	mirror := r.branch(5, 4, 1, 1) // a record on the left
	r.scans(mirror, keyOf("1"), keyZ, 5, "b", false, api.OK)
	r.scans(mirror, beyond, keyZ, 5, "", false, api.ErrCorrupt)
	r.scans(mirror, keyA, keyA, 0, "", false, api.ErrCorrupt)
}

// P11.6: a limit of 0 tells whether there is one at all.
func TestScanForOne(t *testing.T) {
	r := chapter(t, "P11.6")
	r.scans(0, keyA, keyZ, 0, "", false, api.OK)
	r.scans(261, keyA, keyA, 0, "", true, api.OK)
	r.scans(261, keyC, keyC, 0, "", true, api.OK)
	r.scans(4, keyC, keyC, 0, "", false, api.OK)
	r.scans(261, moved(keyC, 1), moved(keyB, -1), 0, "", false, api.OK)
	r.scans(261, moved(keyB, 1), keyZ, 0, "", false, api.OK)
	// A leaf may be looked at and lie ahead of lo, or beyond hi.
	r.scans(2, keyC, keyZ, 0, "", false, api.OK)
	r.scans(3, keyA, keyC, 0, "", false, api.OK)
}
