package index_test

import (
	"fmt"
	"math/rand/v2"
	"testing"

	"ledger/api"
)

// pick tells one of a list.
func pick[T any](rnd *rand.Rand, list ...T) T { return list[rnd.IntN(len(list))] }

// drawnPage tells a number that is most often a page's.
func (r *rig) drawnPage(rnd *rand.Rand) int {
	if rnd.IntN(12) == 0 {
		return pick(rnd, 0, 1, -1, r.s.Next(), r.s.Next()+1, 4096)
	}
	return 2 + rnd.IntN(r.s.Next()-1)
}

// spoil stages a record that was made, with a field or two changed.
func (r *rig) spoil(rnd *rand.Rand) {
	r.Helper()
	x := reading{rig: r}
	rec, _ := x.head(2 + rnd.IntN(r.s.Next()-2))
	for range 1 + rnd.IntN(2) {
		switch rnd.IntN(7) {
		case 0:
			rec.Version += rnd.IntN(5) - 2
		case 1:
			rec.First = max(rec.First+rnd.IntN(3)-1, 0)
		case 2:
			rec.Prev = r.drawnPage(rnd)
		case 3:
			rec.Skip = r.drawnPage(rnd)
		case 4:
			rec.Prev = r.drawnPage(rnd)
			rec.Skip = rec.Prev
		case 5:
			rec.Root = pick(rnd, 0, r.drawnPage(rnd))
			rec.Count = pick(rnd, 0, 1, 4096, 4097)
		case 6:
			rec.Sum = sumOf(rnd.IntN(100))
		}
	}
	r.forge(pick(rnd, 3, 3, 3, 3, 3, 1), laid(rec))
}

// drawn stages something: most often a record behind one that is there.
func (r *rig) drawn(rnd *rand.Rand, forged bool) {
	r.Helper()
	if forged && r.s.Next() > 2 && rnd.IntN(3) == 0 {
		r.spoil(rnd)
		return
	}
	head := 0
	if r.s.Next() > 2 {
		head = pick(rnd, r.drawnPage(rnd), r.s.Next()-1, r.s.Next()-1, r.s.Next()-1)
	}
	x := api.Record{Version: pick(rnd, 1, 1, 3), First: pick(rnd, 0, 0, 1, 3), Sum: sumOf(rnd.IntN(1000))}
	if rnd.IntN(2) == 0 && r.s.Next() > 2 {
		x.Root, x.Count = r.drawnPage(rnd), pick(rnd, 1, 2, 4096)
	}
	r.asReadAdd(head, x)
	if rnd.IntN(6) == 0 && r.s.Next() < r.s.Pages() {
		r.filler(r.s.Next() + 1)
	}
}

// askAll asks each call at each head, for each version near what is there.
func (r *rig) askAll() {
	r.Helper()
	versions := 0
	for head := -1; head <= r.s.Next()+1; head++ {
		r.asReadBounds(head)
		x := reading{rig: r}
		if _, last, _ := x.bounds(head); last > 0 {
			versions = last
		}
		for version := -1; version <= versions+1; version++ {
			r.asReadFind(head, version)
		}
		if next := r.s.Next(); next < r.s.Pages() {
			r.asReadAdd(head, api.Record{Version: 1, Sum: sumOf(head)})
			r.rewind(next)
		}
	}
}

// P15.4 to P15.12 of drawn stores: rows that fork, and forged records among them, staged, flushed and spoilt: every answer is the plain reading's.
func TestDrawnStores(t *testing.T) {
	for seed := range uint64(60) {
		rnd := rand.New(rand.NewPCG(seed, 15))
		r := begunWide(t, fmt.Sprintf("P15.11: seed %d", seed), pick(rnd, 12, 30, 50), pick(rnd, 1, 4, 32))
		for r.s.Next() < r.s.Pages()-1 {
			r.drawn(rnd, seed%3 > 0)
			if rnd.IntN(9) == 0 {
				r.flush()
			}
		}
		r.askAll()
		r.flush()
		again := r.reopened(pick(rnd, 0, 3, 4096))
		again.askAll()
		for range 3 {
			again.d.Flip(2+rnd.IntN(again.s.Next()-2), rnd.IntN(2048), 1)
		}
		spoilt := again.reopened(pick(rnd, 0, 3))
		spoilt.promise += ", spoilt"
		spoilt.askAll()
	}
}
