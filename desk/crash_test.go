package desk_test

import (
	"bytes"
	"fmt"
	"slices"
	"testing"

	"ledger/api"
	"ledger/desk"
)

// fatesOf tells choices of which sectors of the open writes reach the disk: of one write all there are.
func fatesOf(open int) (all [][]byte) {
	all = [][]byte{nil, bytes.Repeat([]byte{15}, open)}
	if open == 1 {
		for fate := range byte(16) {
			all = append(all, []byte{fate})
		}
		return all
	}
	rnd := drawn(open)
	for range 4 {
		fates := make([]byte, open)
		rnd.Read(fates)
		all = append(all, fates)
	}
	return all
}

// P20.10, W3: power goes at each write and sync of the commits among the frames. Each frame behind it that is a request other than stop is ErrDown; behind the crash the ledger is stale; what opens again is what the ledger's own calls leave.
func TestPowerGoesAmongTheFrames(t *testing.T) {
	t.Parallel()
	r := begun(t, "P20.10", 120, 4, 3).history()
	frames := slices.Concat(
		everyRequest(-1)[:12], [][]byte{commit(put(keyQ, "one"), put(api.Key{99}, text(1, 128)))},
		everyRequest(9)[:12], noFrames(), [][]byte{commit()}, badBatches(), everyRequest(2)[:12],
		[][]byte{{8, 8}, commit(del(keyK)), get(keyK, -1), stop(), info(), nil, stop(), commit()},
	)
	whole := r.pair(3)
	whole.serve(4, frames...)
	acts := whole.served.d.Counts().Writes + whole.served.d.Counts().Syncs
	if acts < 15 {
		t.Fatalf("only %d acts", acts)
	}
	for act := 1; act <= acts+1; act++ {
		open := openAt(r, act, frames)
		for n, fates := range fatesOf(open) {
			workers := 1 + (act*5+n)%16
			p := r.pair(1 + n%4)
			p.both(func(r *rig) {
				r.promise = fmt.Sprintf("P20.10: power goes at act %d of %d, fates %v", act, acts, fates)
				r.d.Arm(act)
			})
			p.serve(workers, frames...)
			p.dead(workers, act <= acts, api.ErrDown)
			p.both(func(r *rig) { r.d.Crash(fates) })
			p.dead(workers, true, api.ErrStale)
			p.both(func(r *rig) { r.open(2) })
			p.alike()
			p.serve(workers, slices.Concat(everyRequest(-1)[:20], everyRequest(9)[:20], frames)...)
		}
		if t.Failed() {
			return
		}
	}
}

// openAt tells how many writes are open when power has gone at an act.
func openAt(r *rig, act int, frames [][]byte) int {
	r.Helper()
	other := r.twin(3)
	other.d.Arm(act)
	other.oneByOne(frames)
	return other.d.Counts().Open
}

// dead asks that a ledger that is not live refuses every request with the same error, and what is answered to stops, behind them and to what is no frame.
func (p pair) dead(workers int, so bool, why api.Errno) {
	r := p.served
	r.Helper()
	if !so {
		return
	}
	requests := slices.Concat(everyRequest(-1), everyRequest(99), badBatches(), [][]byte{commit(), commit(put(keyK, "x"))})
	frames := slices.Concat(requests, noFrames(), [][]byte{info(), stop(), info(), nil, {8, 8}, commit(), stop()})
	want := slices.Concat(slices.Repeat([][]byte{err(int(why))}, len(requests)), slices.Repeat([][]byte{err(200)}, len(noFrames())), [][]byte{err(int(why)), err(0)}, slices.Repeat([][]byte{err(201)}, 5))
	r.repliesAre(workers, frames, desk.Serve(r.l, frames, workers), want)
	p.alike()
}
