package ship_test

import (
	"bytes"
	"fmt"
	"sync"
	"testing"

	"ledger/api"
	"ledger/ledger"
	"ledger/ship"
	"ledger/tree"
)

// P19.1, P19.5, P19.6: the streams of all versions and all rows of them are those that the plain maps make; each is right by its form, and each of its versions holds.
func TestExports(t *testing.T) {
	for name, begin := range map[string]func(t *testing.T) *rig{
		"from 0 on":           func(t *testing.T) *rig { return begun(t, "P19.5", 60, 4, 3).history() },
		"from 0 on, width 1":  func(t *testing.T) *rig { return begun(t, "P19.5", 60, 1, 1).history() },
		"from 0 on, width 32": func(t *testing.T) *rig { return begun(t, "P19.5", 60, 32, 60).history() },
		"from 5 on": func(t *testing.T) *rig {
			return based(t, "P19.5", 60, 7, 2, 5, entries{keyK: "x", keyOf("1"): text(2, 128)}).history()
		},
		"from 1 on, empty": func(t *testing.T) *rig { return based(t, "P19.5", 60, 4, 2, 1, entries{}).history() },
		"nothing yet":      func(t *testing.T) *rig { return begun(t, "P19.5", 3, 4, 1) },
	} {
		t.Run(name, func(t *testing.T) {
			t.Parallel()
			r := begin(t)
			for from := r.first; from <= r.last(); from++ {
				for to := from; to <= r.last(); to++ {
					s, right := hear(r.export(from, to))
					if !right || s.lowestWrong(0) != -1 {
						r.fails("P19.6: Export(%d, %d) is right: %t; it does not hold at %d", from, to, right, s.lowestWrong(0))
					}
				}
				r.export(from, -1)
			}
			r.export(-1, -1)
			r.export(-1, r.last())
		})
	}
}

// P19.5: which numbers are refused, at which place, and in which order: for all pairs of versions, of a live ledger, of one that is stale, and of one without power.
func TestExportRefusals(t *testing.T) {
	versions := func(r *rig) []int {
		all := []int{lowest, -1 << 40, -3, -2, -1, 0, 1, r.first - 1, r.last() + 1, r.last() + 2, 1<<30 - 1, 1 << 30, 1<<30 + 1, highest}
		for v := r.first; v <= r.last(); v++ {
			all = append(all, v)
		}
		return all
	}
	for _, why := range []api.Errno{api.OK, api.ErrStale, api.ErrDown} {
		for _, r := range []*rig{
			begun(t, "P19.5", 60, 4, 3).history(),
			based(t, "P19.5", 60, 4, 3, 4, entries{keyK: "x"}).history(),
			based(t, "P19.5", 60, 4, 3, 1<<30, entries{keyK: "x"}),
		} {
			r.kill(why)
			for _, from := range versions(r) {
				for _, to := range versions(r) {
					r.export(from, to)
				}
			}
		}
	}
}

// P19.5, R2, R3: a nil ledger comes ahead of all; then that it is not live: at from, whatever stands there.
func TestExportOfNothing(t *testing.T) {
	for _, from := range []int{lowest, -2, -1, 0, 3, highest} {
		for _, to := range []int{lowest, -1, 0, 9, highest} {
			if s, err := ship.Export(nil, from, to); s != nil || !isRefusal(err, "export", from, api.ErrArg) {
				t.Errorf("P19.5: Export(nil, %d, %d) = %d bytes, %v", from, to, len(s), err)
			}
		}
	}
	r := begun(t, "P19.5", 60, 4, 3).history()
	r.d.Claim()
	r.kill(api.ErrDown)
	r.dead = api.ErrStale // it is both
	r.export(0, 99)
	r.export(7, 3)
}

// P19.5: all is refused ahead of a page that does not stand.
func TestExportLooksLast(t *testing.T) {
	whole := based(t, "P19.5", 60, 4, 3, 4, entries{keyK: "x"}).history()
	r := whole.twin(1)
	for page := 2; page < whole.used; page++ {
		r.d.Flip(page, 1500, 1)
	}
	refused := 0
	for from := -2; from <= r.last()+1; from++ {
		for to := -2; to <= r.last()+1; to++ {
			if _, at, why := r.wanted(from, to); why != api.OK {
				refused++
				if s, err := ship.Export(r.l, from, to); s != nil || !isRefusal(err, "export", at, why) {
					r.fails("Export(%d, %d) = %d bytes, %v, want %v at %d", from, to, len(s), err, why, at)
				}
			}
		}
	}
	if refused < 100 {
		r.fails("only %d are refused", refused)
	}
}

// looks tells whether one of the questions is refused that an Export of these versions asks: a Root of each, a Scan of the first, a Diff of each with the next one.
func (r *rig) looks(from, to int) bool {
	r.Helper()
	corrupt := func(err error) bool {
		if err != nil && ledger.Code(err) != api.ErrCorrupt {
			r.Fatal(err)
		}
		return err != nil
	}
	_, _, err := r.l.Scan(low[:], high[:], from, 1000)
	met := corrupt(err)
	for v := from; v <= to; v++ {
		_, err := r.l.Root(v)
		met = corrupt(err) || met
		if v > from {
			_, err := r.l.Diff(v-1, v)
			met = corrupt(err) || met
		}
	}
	return met
}

// P19.5: with one page spoilt an Export is refused just where it looks at that page: at what Root, Scan and Diff of its versions look at, and at nothing else. At is from, as it was handed in.
func TestExportOfSpoiltPages(t *testing.T) {
	for name, begin := range map[string]func(t *testing.T) *rig{
		"from 0 on": func(t *testing.T) *rig { return begun(t, "", 60, 4, 8).history() },
		"from 3 on": func(t *testing.T) *rig {
			return based(t, "", 60, 4, 8, 3, entries{keyK: "x", keyOf("1"): "y", keyOf("10101"): "z"}).history()
		},
	} {
		t.Run(name, func(t *testing.T) {
			t.Parallel()
			whole := begin(t)
			met, passed := 0, 0
			for page := 2; page < whole.used-1; page++ { // the head's record is looked at by Open
				image := whole.d.Image()
				image[256*page+188] ^= 16
				for from := whole.first; from <= whole.last(); from++ {
					for to := from; to <= whole.last(); to++ {
						asked := *whole
						asked.promise, asked.d = fmt.Sprintf("P19.5: page %d is spoilt", page), loaded(t, image)
						asked.open(1)
						spoilt := asked.looks(from, to)
						asked.open(1)
						asked.exportSpoilt(from, to, from, spoilt)
						if to == whole.last() {
							asked.exportSpoilt(from, -1, from, spoilt)
						}
						if from == whole.last() {
							asked.exportSpoilt(-1, to, -1, spoilt)
						}
						if spoilt {
							met++
						} else {
							passed++
						}
					}
				}
			}
			if met < 100 || passed < 100 {
				t.Errorf("%d are refused, %d not", met, passed)
			}
		})
	}
}

// exportSpoilt asks of an Export on a spoilt disk that it is refused, or answers as if nothing were spoilt.
func (r *rig) exportSpoilt(from, to, at int, spoilt bool) {
	r.Helper()
	if !spoilt {
		r.export(from, to)
		return
	}
	r.quiet(func() {
		r.Helper()
		if s, err := ship.Export(r.l, from, to); s != nil || !isRefusal(err, "export", at, api.ErrCorrupt) {
			r.fails("Export(%d, %d) = %d bytes, %v", from, to, len(s), err)
		}
	})
}

// P19.6: the bytes hang on the width, the numbers and the maps alone: not on the pages, the room, the older versions, nor on changes that took no effect, nor on their order.
func TestOneHistoryTwice(t *testing.T) {
	plain := begun(t, "P19.6", 100, 4, 1)
	plain.commits(put(keyK, "a"), put(keyQ, "b"))
	plain.commits()
	plain.commits(del(keyK), put(keyM, "c"))
	plain.commits()

	wordy := begun(t, "P19.6", 400, 4, 400)
	wordy.commits(put(keyQ, "b"), del(keyM), put(keyK, "a"))
	wordy.commits(put(keyK, "a"), del(low), put(keyQ, "b"))
	wordy.commits(put(keyM, "c"), put(keyQ, "b"), del(keyK), del(high))
	wordy.commits(del(keyK))

	later := based(t, "P19.6", 90, 4, 3, 1, entries{keyK: "a", keyQ: "b"})
	later.commits().commits(put(keyM, "c"), del(keyK)).commits()

	for from := 1; from <= 4; from++ {
		for to := from; to <= 4; to++ {
			want := plain.export(from, to)
			if !bytes.Equal(wordy.export(from, to), want) || !bytes.Equal(later.export(from, to), want) {
				t.Errorf("P19.6: Export(%d, %d) differs", from, to)
			}
		}
	}
}

// P19.1, P19.5: more keys than one Scan tells: just as many, one more, and some thousand.
func TestExportOfManyKeys(t *testing.T) {
	t.Parallel()
	r := begun(t, "P19.5", 4096, 4, 64)
	keys := many(1900)
	for i := 0; i < len(keys); i += 64 {
		var cs []api.Change
		for _, k := range keys[i:min(i+64, len(keys))] {
			cs = append(cs, put(k, "v"))
		}
		next := r.maps[len(r.maps)-1].behind(cs)
		if _, err := r.l.Commit(raw(cs...)); err != nil {
			break
		}
		r.maps = append(r.maps, next)
	}
	if len(r.maps[len(r.maps)-1]) < 1500 {
		t.Fatalf("only %d keys", len(r.maps[len(r.maps)-1]))
	}
	r.export(-1, -1)
	r.export(r.last()-1, -1)
	for _, n := range []int{999, 1000, 1001, 1002} {
		base := entries{}
		for _, k := range keys[:n] {
			// Some end with bytes of ones: the key behind such a one is another one further up.
			copy(k[5+n%4*9:], high[:])
			base[k] = "w"
		}
		few := based(t, fmt.Sprintf("P19.5: %d keys", n), 4096, 4, 64, 7, base)
		few.export(7, 7)
	}
}

// P19.5: entries at the very ends of the keys' row are exported too.
func TestExportOfTheEnds(t *testing.T) {
	r := begun(t, "P19.5", 40, 4, 4)
	r.commits(put(low, "l"), put(high, "h"))
	r.commits(del(low), put(high, "i"))
	r.export(1, 2)
	r.export(2, 2)
}

// P19.5: a forged disk whose neighbouring versions differ by more than a batch may hold: refused with ErrCorrupt; by just as many it is not.
func TestExportOfForgedSteps(t *testing.T) {
	t.Parallel()
	for _, n := range []int{63, 64, 65, 100} {
		r := begun(t, fmt.Sprintf("P19.5: %d changes", n), 600, 4, 8)
		r.commits(put(keyK, "a"))
		s := storeOf(t, r.d)
		next := r.maps[1]
		var cs []api.Change
		for _, k := range many(n) {
			cs = append(cs, put(k, "v"))
		}
		next = next.behind(cs)
		root, e := tree.Update(s, 2, cs)
		if e != api.OK {
			t.Fatal(e)
		}
		r.publish(s, s.Super().Head, api.Record{Root: root, Count: len(next), Sum: next.root(4)})
		r.maps, r.used = append(r.maps, next), s.Super().Mark
		r.open(8)
		r.holds()
		r.export(2, 2)
		r.export(0, 1)
		if n <= 64 {
			r.export(0, 2)
			r.export(1, -1)
			continue
		}
		r.exportSpoilt(1, 2, 1, true)
		r.exportSpoilt(0, -1, 0, true)
	}
}

// P19.5, P16.20: several goroutines may export from one ledger at once, and commits may come between.
func TestExportsTogether(t *testing.T) {
	t.Parallel()
	r := begun(t, "P19.5, P16.20", 200, 4, 4).history()
	last := r.last()
	var wants [][]byte
	for from := 0; from <= last; from++ {
		wants = append(wants, r.tells(from, last).stream())
	}
	var group sync.WaitGroup
	for range 4 {
		group.Go(func() {
			for from := 0; from <= last; from++ {
				if s, err := ship.Export(r.l, from, last); err != nil || !bytes.Equal(s, wants[from]) {
					t.Errorf("P19.5: Export(%d, %d) = %d bytes, %v", from, last, len(s), err)
				}
			}
		})
	}
	group.Go(func() {
		for i := range 20 {
			if _, err := r.l.Commit(raw(put(keyK, text(i, 3)))); err != nil {
				t.Error(err)
			}
		}
	})
	group.Wait()
}
