package ledger_test

import (
	"bytes"
	"fmt"
	"math/rand/v2"
	"testing"

	"ledger/api"
	"ledger/ledger"
)

// pick tells one of a list.
func pick[T any](rnd *rand.Rand, list ...T) T { return list[rnd.IntN(len(list))] }

// drawnKey tells one of few keys, of which some part late.
func drawnKey(rnd *rand.Rand) api.Key {
	k := keyOf(fmt.Sprintf("%04b", rnd.IntN(16)))
	if rnd.IntN(4) == 0 {
		k = flipped(k, pick(rnd, 4, 9, 20, 33))
	}
	return k
}

// drawnBatch tells changes of unlike keys.
func drawnBatch(rnd *rand.Rand) (cs []api.Change) {
	for _, k := range drawnKeys(rnd, rnd.IntN(6)) {
		if rnd.IntN(3) == 0 {
			cs = append(cs, del(k))
		} else {
			cs = append(cs, put(k, string(text(rnd.IntN(50), pick(rnd, 0, 1, 1, 7, 128)))))
		}
	}
	return cs
}

// drawnKeys tells unlike keys, n at most.
func drawnKeys(rnd *rand.Rand, n int) (keys []api.Key) {
	seen := map[api.Key]bool{}
	for range n {
		if k := drawnKey(rnd); !seen[k] {
			seen[k] = true
			keys = append(keys, k)
		}
	}
	return keys
}

// drawnVersion tells a version that most often is one.
func (r *rig) drawnVersion(rnd *rand.Rand) int {
	if rnd.IntN(8) == 0 {
		return pick(rnd, lowest, -2, -1, r.m.first-1, r.m.last(), r.m.last()+1, 1<<30, highest)
	}
	return r.m.first + rnd.IntN(r.m.last()-r.m.first+1)
}

// drawnBytes tells bytes that most often are a key's.
func drawnBytes(rnd *rand.Rand) []byte {
	k := drawnKey(rnd)
	if rnd.IntN(12) == 0 {
		return append(k[:], 1)[:pick(rnd, 0, 1, 31, 33)]
	}
	return k[:]
}

// question asks one question.
func (r *rig) question(rnd *rand.Rand) {
	r.Helper()
	lo, hi, v := drawnBytes(rnd), drawnBytes(rnd), r.drawnVersion(rnd)
	if rnd.IntN(3) > 0 && bytes.Compare(lo, hi) > 0 {
		lo, hi = hi, lo
	}
	switch rnd.IntN(8) {
	case 0:
		r.get(lo, v)
	case 1:
		r.root(v)
	case 2:
		r.prove(lo, v)
	case 3:
		r.span(lo, hi, v)
	case 4:
		r.scan(lo, hi, v, pick(rnd, -1, 0, 1, 2, 3, 1000, 1001))
	case 5:
		r.diff(v, r.drawnVersion(rnd))
	case 6:
		r.info()
	case 7:
		r.preview(r.drawnRaw(rnd))
	}
}

// drawnRaw tells a batch's bytes, or some that are none.
func (r *rig) drawnRaw(rnd *rand.Rand) []byte {
	b := raw(drawnBatch(rnd)...)
	switch rnd.IntN(14) {
	case 0:
		b[rnd.IntN(len(b))] ^= byte(1 + rnd.IntN(255))
	case 1:
		b = b[:rnd.IntN(len(b))]
	case 2:
		b = append(b, 0)
	}
	return b
}

// lose lets power go in a Commit, and opens the disk behind it.
func (r *rig) lose(rnd *rand.Rand) {
	r.Helper()
	cs := drawnBatch(rnd)
	pages := cost(r.m.newest(), r.m.newest().behind(cs)) + 1
	act := 1 + rnd.IntN(pages+4)
	fits := r.m.used+pages <= r.m.pages
	r.d.Arm(act)
	v, err := r.l.Commit(raw(cs...))
	fates := make([]byte, rnd.IntN(pages+2))
	for i := range fates {
		fates[i] = byte(rnd.Uint32())
	}
	switch {
	case !fits:
		if v != 0 || ledger.Code(err) != api.ErrFull {
			r.fails("Commit = %d, %v, want ErrFull", v, err)
		}
	case act > pages+3:
		if v != r.m.last()+1 || err != nil {
			r.fails("Commit = %d, %v", v, err)
		}
		r.m.commit(cs)
	default:
		if v != 0 || !isRefusal(err, "commit", r.m.last()+1, api.ErrDown) {
			r.fails("Commit = %d, %v, want ErrDown", v, err)
		}
		if act >= pages+2 && len(fates) > 0 && fates[0]%2 == 1 {
			r.m.commit(cs)
		}
	}
	r.d.Crash(fates)
	r.open(pick(rnd, 1, 2, 5, 4096))
}

// W1, W3: drawn calls, with losses of power and openings among them: every answer and every refusal is the one of plain maps.
func TestDrawnLedgers(t *testing.T) {
	for seed := range uint64(24) {
		t.Run(fmt.Sprint(seed), func(t *testing.T) {
			t.Parallel()
			rnd := rand.New(rand.NewPCG(seed, 16))
			pages, width, room := pick(rnd, 20, 60, 150, 400), pick(rnd, 1, 2, 4, 32), pick(rnd, 1, 2, 6, 4096)
			promise := fmt.Sprintf("W1: seed %d", seed)
			r := begun(t, promise, pages, width, room)
			if seed%4 == 3 {
				r = based(t, promise, pages, width, room, pick(rnd, 1, 2, 1000, 1<<30-7), entries{keyK: "x", drawnKey(rnd): "y"})
			}
			for range 250 {
				switch n := rnd.IntN(40); {
				case n < 10:
					r.commit(r.drawnRaw(rnd))
				case n < 11:
					if !r.m.top {
						r.lose(rnd)
					}
				case n < 12:
					r.open(pick(rnd, 1, 2, 5, 4096))
				default:
					r.quiet(func() { r.question(rnd) })
				}
				if t.Failed() {
					return
				}
			}
			for v := r.m.first; v <= r.m.last(); v++ {
				r.root(v)
			}
		})
	}
}

// twins are two ledgers with the same history, of which one's disk is flipped behind its back.
type twins struct {
	*testing.T
	spoilt, whole *rig
	flipped       map[int]bool
	over          bool
}

// same asks that the spoilt one was refused with ErrCorrupt, or answers what the whole one does.
func (tw *twins) same(what string, spoilt string, err error, whole string) {
	tw.Helper()
	if ledger.Code(err) != api.ErrCorrupt && spoilt != whole {
		tw.Errorf("%s: %s: %s, want %s", tw.spoilt.promise, what, spoilt, whole)
	}
}

// flip turns a burst of bits in a page that has none yet.
func (tw *twins) flip(rnd *rand.Rand) {
	page := rnd.IntN(tw.spoilt.d.Pages())
	if rnd.IntN(3) > 0 {
		page = rnd.IntN(tw.spoilt.m.used)
	}
	if !tw.flipped[page] {
		tw.flipped[page] = true
		tw.spoilt.d.Flip(page, rnd.IntN(2048), rnd.Uint32()|1)
	}
}

// ask asks both the same.
func (tw *twins) ask(rnd *rand.Rand) {
	tw.Helper()
	k, m, v, w := drawnKey(rnd), drawnKey(rnd), tw.whole.drawnVersion(rnd), tw.whole.drawnVersion(rnd)
	b := raw(drawnBatch(rnd)...)
	what := rnd.IntN(8)
	answer := func(l *ledger.Ledger) (string, error) {
		switch what {
		case 0:
			a, err := l.Get(k[:], v)
			return fmt.Sprint(a, err), err
		case 1:
			a, err := l.Root(v)
			return fmt.Sprint(a, err), err
		case 2:
			a, err := l.Prove(k[:], v)
			return fmt.Sprint(a, err), err
		case 3:
			a, err := l.Span(k[:], m[:], v)
			return fmt.Sprint(a, err), err
		case 4:
			a, more, err := l.Scan(k[:], m[:], v, 3)
			return fmt.Sprint(a, more, err), err
		case 5:
			a, err := l.Diff(v, w)
			return fmt.Sprint(a, err), err
		case 6:
			a, err := l.Info()
			return fmt.Sprint(a, err), err
		}
		sum, n, err := l.Preview(b)
		return fmt.Sprint(sum, n, err), err
	}
	one, err := answer(tw.spoilt.l)
	two, _ := answer(tw.whole.l)
	tw.same(fmt.Sprint("question ", what), one, err, two)
}

// commit commits to both, unless the spoilt one refuses with ErrCorrupt.
func (tw *twins) commit(rnd *rand.Rand) {
	tw.Helper()
	b := raw(drawnBatch(rnd)...)
	v, err := tw.spoilt.l.Commit(b)
	if ledger.Code(err) == api.ErrCorrupt {
		return
	}
	u, why := tw.whole.l.Commit(b)
	tw.same("Commit", fmt.Sprint(v, err), err, fmt.Sprint(u, why))
	if why == nil {
		cs, _ := parsed(b)
		tw.whole.m.commit(cs)
		tw.spoilt.m.commit(cs)
	}
}

// crash crashes both, alike, and opens them anew; behind an opening that is refused all is over.
func (tw *twins) crash(rnd *rand.Rand) {
	tw.Helper()
	fates := make([]byte, rnd.IntN(8))
	for i := range fates {
		fates[i] = byte(rnd.Uint32())
	}
	tw.spoilt.d.Crash(fates)
	tw.whole.d.Crash(fates)
	tw.reopen(rnd)
}

// reopen opens both anew.
func (tw *twins) reopen(rnd *rand.Rand) {
	tw.Helper()
	l, err := ledger.Open(tw.spoilt.d, pick(rnd, 1, 2, 4096))
	if ledger.Code(err) == api.ErrCorrupt {
		tw.over = true
		return
	}
	m, why := ledger.Open(tw.whole.d, 1)
	if err != nil || why != nil {
		tw.Fatalf("%s: Open: %v, %v", tw.spoilt.promise, err, why)
	}
	tw.spoilt.l, tw.whole.l = l, m
	info, _ := m.Info()
	x := read(tw.whole.d.Image())
	for tw.whole.m.last() < info.Last { // the version that was under way came through
		tw.whole.m.maps = append(tw.whole.m.maps, x.all(x.newest()))
	}
	tw.whole.m.used, tw.spoilt.m.used = info.Used, info.Used
}

// W5: bursts of bits are flipped behind a ledger's back, losses of power among them: each call is refused with ErrCorrupt, or answers what it would have answered.
func TestDrawnBursts(t *testing.T) {
	t.Parallel()
	for seed := range uint64(60) {
		rnd := rand.New(rand.NewPCG(seed, 5))
		promise := fmt.Sprintf("W5: seed %d", seed)
		pages, width, room := pick(rnd, 40, 120, 300), pick(rnd, 1, 4, 32), pick(rnd, 1, 3, 4096)
		tw := &twins{T: t, spoilt: begun(t, promise, pages, width, room), whole: begun(t, promise, pages, width, room), flipped: map[int]bool{}}
		for range rnd.IntN(10) {
			tw.commit(rnd)
		}
		for range 120 {
			switch n := rnd.IntN(30); {
			case n < 4:
				tw.flip(rnd)
			case n < 10:
				tw.commit(rnd)
			case n < 11:
				act := 1 + rnd.IntN(12)
				tw.spoilt.d.Arm(act)
				tw.whole.d.Arm(act)
				tw.commit(rnd)
				tw.crash(rnd)
			case n < 12:
				tw.reopen(rnd)
			default:
				tw.ask(rnd)
			}
			if tw.over || t.Failed() {
				break
			}
		}
	}
}

// R1: no call panics, whatever numbers and bytes it is given.
func TestNoCallPanics(t *testing.T) {
	t.Parallel()
	rnd := rand.New(rand.NewPCG(1, 1))
	number := func() int {
		return pick(rnd, lowest, -1<<32, -4097, -2, -1, 0, 1, 2, 7, 32, 33, 1000, 1001, 4096, 4097, 1<<30, 1<<32, highest, int(rnd.Uint64()))
	}
	some := func() []byte {
		b := make([]byte, pick(rnd, 0, 1, 2, 31, 32, 33, 40, 100))
		for i := range b {
			b[i] = byte(rnd.Uint32() & 3)
		}
		return b
	}
	for range 30 {
		d := blank(t, 20)
		ledger.Create(d, number(), number())
		ledger.Open(d, number())
		l, err := ledger.Create(d, 1+rnd.IntN(32), 1+rnd.IntN(4))
		if err != nil {
			l, err = ledger.Open(d, 1)
		}
		if err != nil {
			t.Fatal(err)
		}
		for range 60 {
			l.Commit(some())
			l.Preview(some())
			l.Get(some(), number())
			l.Root(number())
			l.Prove(some(), number())
			l.Span(some(), some(), number())
			l.Scan(some(), some(), number(), number())
			l.Diff(number(), number())
			ledger.Wrap(string(some()), number(), api.Errno(number()))
			if rnd.IntN(10) == 0 {
				l.Commit(raw(drawnBatch(rnd)...))
			}
			if rnd.IntN(40) == 0 {
				d.Flip(rnd.IntN(20), rnd.IntN(2048), rnd.Uint32())
			}
			if rnd.IntN(60) == 0 {
				d.Arm(rnd.IntN(5))
			}
		}
	}
}
