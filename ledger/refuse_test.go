package ledger_test

import (
	"testing"

	"ledger/api"
	"ledger/ledger"
)

// someKeys tells bytes that are keys, or nearly.
func someKeys() [][]byte {
	long := append(keyK[:], 0)
	return [][]byte{nil, {}, keyK[:1], keyK[:31], keyM[:], keyK[:], keyQ[:], low[:], high[:], long, make([]byte, 64)}
}

// P16.11 to P16.16: which keys, ends, limits and versions are refused, in which order, and at which version that is told.
func TestOrderOfReads(t *testing.T) {
	t.Parallel()
	fresh := begun(t, "the order of refusals, fresh", 16, 4, 2)
	grown := begun(t, "the order of refusals", 64, 4, 2)
	grown.commits(put(keyK, "a"))
	grown.commits(put(keyQ, ""), put(high, "z"))
	later := based(t, "the order of refusals, from 7 on", 64, 4, 2, 7, entries{keyK: "a", keyQ: "b"})
	later.commits(put(keyQ, "c"))
	later.commits(del(keyK))
	for _, r := range []*rig{fresh, grown, later} {
		r.quiet(func() { r.orders() })
	}
}

// orders asks all reads with all that may be wrong.
func (r *rig) orders() {
	r.Helper()
	versions := []int{lowest, -3, -2, -1, 0, r.m.first - 1, r.m.first, r.m.last(), r.m.last() + 1, 1 << 30, 1<<32 - 1, highest}
	for _, v := range versions {
		r.root(v)
		for _, w := range versions {
			r.diff(v, w)
		}
		for _, lo := range someKeys() {
			r.get(lo, v)
			r.prove(lo, v)
			for _, hi := range someKeys() {
				r.span(lo, hi, v)
				for _, limit := range []int{lowest, -1, 0, 1, 2, 1000, 1001, highest} {
					r.scan(lo, hi, v, limit)
				}
			}
		}
	}
}

// P16.8, P16.10: bytes that are no batch are refused as batch.Parse says, ahead of ErrFull and of what lies on the disk.
func TestOrderOfBatches(t *testing.T) {
	full := begun(t, "P16.8: a full disk", 3, 4, 1)
	full.commits()
	top := based(t, "P16.8: the highest version", 16, 4, 1, 1<<30, entries{keyK: "a"})
	spoilt := begun(t, "P16.8: a spoilt root", 16, 4, 1)
	spoilt.commits(put(keyK, "a"))
	spoilt = spoilt.spoil(2, 50, 1)
	spoilt.open(1)
	plain := begun(t, "P16.8", 16, 4, 1)
	for _, r := range []*rig{full, top, spoilt, plain, plain.generation(1 << 40)} {
		at := r.m.last() + 1
		for b, why := range wrongBatches {
			r.commit([]byte(b))
			r.preview([]byte(b))
			if v, err := r.l.Commit([]byte(b)); v != 0 || !isRefusal(err, "commit", at, why) {
				r.fails("Commit = %d, %v, want %v", v, err, why)
			}
			if _, _, err := r.l.Preview([]byte(b)); !isRefusal(err, "preview", at, why) {
				r.fails("Preview: %v, want %v", err, why)
			}
		}
	}
}

// P16.8: where a version or a generation is the highest, ErrFull comes ahead of what lies on the disk.
func TestHighestVersion(t *testing.T) {
	base := entries{keyK: "a", keyQ: "b"}
	for _, from := range []int{1<<30 - 2, 1<<30 - 1, 1 << 30} {
		r := based(t, "P16.8: MaxVersion", 64, 4, 3, from, base)
		for r.m.last() < 1<<30 {
			r.commits(put(keyK, "c"))
		}
		for _, b := range [][]byte{raw(), raw(put(keyK, "x")), raw(del(keyQ))} {
			r.commit(b)
			r.preview(b)
			if _, err := r.l.Commit(b); err == nil || err.Error() != "commit at 1073741825: no page is left" {
				t.Errorf("P16.8: at MaxVersion: %v", err)
			}
		}
		r.asks(keyK, keyQ)
	}
	r := based(t, "P16.8: MaxVersion", 64, 4, 3, 1<<30, base).spoil(2, 5, 1)
	r.open(1)
	r.commit(raw(put(keyK, "x")))
	r.preview(raw(put(keyK, "x")))
	if _, err := r.l.Commit(raw(put(keyK, "x"))); ledger.Code(err) != api.ErrFull {
		t.Errorf("P16.8: at MaxVersion, with a spoilt node: %v", err)
	}
}

// P16.8: the highest generation of a superblock.
func TestHighestGeneration(t *testing.T) {
	r := begun(t, "P16.8: MaxGeneration", 64, 4, 3)
	r.commits(put(keyK, "a"), put(keyQ, "b"))
	for _, newest := range []int{1<<40 - 2, 1<<40 - 1, 1 << 40} {
		g := r.generation(newest)
		for range 1<<40 - newest {
			g.commits(put(keyK, "c"))
		}
		g.m.top = true
		for _, b := range [][]byte{raw(), raw(put(keyK, "x")), raw(del(keyQ))} {
			g.commit(b)
			g.preview(b)
		}
		g.asks(keyK, keyQ)
		for page := 2; page < g.m.used-1; page++ {
			s := g.spoil(page, 9, 1)
			s.open(1)
			s.commit(raw(put(keyK, "x"), put(keyQ, "x")))
			s.preview(raw(put(keyK, "x"), put(keyQ, "x")))
		}
	}
}

// P16.8, P16.10: what is spoilt on the changes' paths comes ahead of ErrFull, that ahead of the new root's page, and that ahead of the records.
func TestOrderOfCorruptAndFull(t *testing.T) {
	t.Parallel()
	whole := begun(t, "P16.8", 16, 4, 2)
	whole.commits(put(keyK, "a")) // 2, 3
	whole.commits(put(keyQ, "b")) // 4, 5, 6
	whole.commits(put(keyK, "c")) // 7, 8, 9
	whole.commits()               // 10
	whole.commits(put(keyQ, "q")) // 11, 12, 13
	batches := [][]byte{raw(), raw(put(keyQ, "q")), raw(del(keyM)), raw(del(keyK)), raw(del(keyQ)), raw(put(keyQ, "new")), raw(put(keyK, "d"), put(keyQ, "e")), raw(put(keyM, "far")), raw(del(keyK), del(keyQ))}
	for left := range 4 {
		r := whole.reopened(2)
		r.promise = "P16.8"
		for r.m.used < 13+left {
			r.commits()
		}
		for page := 2; page < r.m.used-1; page++ {
			for _, b := range batches {
				s := r.spoil(page, 300, 7)
				s.open(1)
				s.preview(b)
				s.commit(b)
				if page < r.m.used-1 {
					s.info()
				}
			}
		}
	}
}
