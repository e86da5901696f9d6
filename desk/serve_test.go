package desk_test

import (
	"fmt"
	"runtime"
	"slices"
	"strings"
	"sync"
	"testing"

	"ledger/api"
	"ledger/desk"
	"ledger/ledger"
)

// someWorkers are numbers of workers that may be.
var someWorkers = []int{1, 2, 3, 4, 7, 15, 16}

// P20.7: over no ledger, and with a number of workers that may not be, every reply is ErrArg, whatever the frames are, and nothing is done.
func TestServeRefuses(t *testing.T) {
	frames := slices.Concat([][]byte{commit(put(keyK, "a")), info(), stop()}, everyRequest(0), noFrames(), badBatches(), [][]byte{stop(), commit()})
	r := begun(t, "P20.7", 40, 4, 2).commits(put(keyQ, "q"))
	refused := slices.Repeat([][]byte{err(1)}, len(frames))
	before := stateOf(r)
	reads := r.d.Counts().Reads
	for _, workers := range []int{lowest, -16, -1, 0, 17, 18, 1 << 32, 1<<32 + 4, highest} {
		r.repliesAre(workers, frames, desk.Serve(r.l, frames, workers), refused)
		r.repliesAre(workers, frames[:1], desk.Serve(r.l, frames[:1], workers), refused[:1])
		r.repliesAre(workers, nil, desk.Serve(r.l, nil, workers), nil)
	}
	for _, workers := range []int{-1, 0, 1, 16, 17} {
		r.repliesAre(workers, frames, desk.Serve(nil, frames, workers), refused)
		r.repliesAre(workers, nil, desk.Serve(nil, nil, workers), nil)
	}
	if now := stateOf(r); now != before || r.d.Counts().Reads != reads {
		r.fails("something was done: %s, from %s", now.tell(), before.tell())
	}
	r.pair(2).serve(16, frames...)
}

// P20.7, P20.9: of no frames no replies, of one its reply, for every number of workers.
func TestFewFrames(t *testing.T) {
	t.Parallel()
	r := begun(t, "P20.7", 120, 4, 3).history()
	for workers := 1; workers <= 16; workers++ {
		p := r.pair(workers)
		p.serve(workers)
		p.serve(workers, [][]byte{}...)
		for _, f := range slices.Concat(everyRequest(-1), noFrames(), badBatches(), [][]byte{stop(), commit(put(keyK, "one")), commit()}) {
			p.serve(workers, f)
		}
	}
}

// P20.7: every kind of request at every version, from below -1 to above the newest, in many forms; and on a ledger whose first versions are gone.
func TestEveryRequest(t *testing.T) {
	t.Parallel()
	whole := begun(t, "P20.7", 120, 4, 3).history()
	for from, r := range map[int]*rig{0: whole, 3: whole.thinned(3, 3), 8: whole.thinned(8, 1)} {
		var frames [][]byte
		for _, v := range []int{lowest, -3, -2, -1, 0, 1, 2, 3, 4, 5, 6, 7, 8, 9, 1 << 30, 1 << 32, highest} {
			frames = append(frames, everyRequest(v)...)
		}
		for _, workers := range someWorkers {
			p := r.pair(workers)
			p.both(func(r *rig) { r.promise = fmt.Sprint("P20.7: from version ", from, " on") })
			got := p.serve(workers, frames...)
			seen := map[byte]int{}
			for _, reply := range got {
				seen[reply[0]]++
			}
			if seen[0] == 0 || seen[1] == 0 || seen[110] == 0 || seen[151] == 0 || (seen[152] > 0) != (from > 0) {
				r.fails("replies by their errors: %v", seen)
			}
		}
	}
}

// P20.7: the ledger's refusals of a batch, among them that no page is left, come as they are, and the frames behind them are served.
func TestCommitsRefused(t *testing.T) {
	r := begun(t, "P20.7", 9, 4, 3)
	frames := [][]byte{commit(put(keyK, "a")), info()}
	for _, b := range badBatches() {
		frames = append(frames, b, info())
	}
	deep := flipped(keyK, 200)
	frames = append(frames, commit(put(deep, "full")), get(deep, -1), commit(put(keyQ, "q")), get(keyQ, -1), commit(), info(), commit(), commit(), get(keyQ, 2), info())
	for _, workers := range someWorkers {
		p := r.pair(3)
		got := p.serve(workers, frames...)
		var errs []string
		for i, f := range frames {
			if f[0] == 1 {
				errs = append(errs, fmt.Sprint(got[i][0]))
			}
		}
		if s := strings.Join(errs, " "); s != "0 30 30 30 31 32 33 30 5 0 0 0 5" {
			r.fails("the commits' errors are %s", s)
		}
	}
}

// P20.7, P20.8, W4: drawn frames with commits among them: for every number of workers the replies and the image are those of the ledger's own calls one behind the other.
func TestDrawnFrames(t *testing.T) {
	for seed := range 12 {
		t.Run(fmt.Sprint(seed), func(t *testing.T) {
			t.Parallel()
			rnd := drawn(seed)
			r := begun(t, fmt.Sprint("P20.8, W4: number ", seed), 1500, []int{1, 4, 32}[seed%3], 3).history()
			if seed%4 == 3 {
				r = r.thinned(1+seed%5, 2)
			}
			var frames [][]byte
			for range 120 + rnd.Intn(200) {
				frames = append(frames, drawnFrame(rnd, 40))
			}
			for workers := 1; workers <= 16; workers++ {
				p := r.pair(1 + rnd.Intn(6))
				cut := rnd.Intn(len(frames))
				p.serve(workers, frames[:cut]...)
				p.serve(17-workers, frames[cut:]...)
			}
		})
	}
}

// P20.8: the same with one processor, where the sender is ahead of all workers, and with more of them.
func TestFramesOnFewProcessors(t *testing.T) {
	r := begun(t, "P20.8", 400, 4, 3).history()
	rnd := drawn(77)
	var frames [][]byte
	for range 300 {
		frames = append(frames, drawnFrame(rnd, 20))
	}
	for _, n := range []int{1, 2, 64} {
		was := runtime.GOMAXPROCS(n)
		for _, workers := range someWorkers {
			r.pair(4).serve(workers, frames...)
		}
		runtime.GOMAXPROCS(was)
	}
}

// P20.7, W4: what a frame sees is what all commits ahead of it made, and none behind it: each version says its own number, whatever the workers do.
func TestFramesSeeTheCommitsAheadOfThem(t *testing.T) {
	t.Parallel()
	for _, workers := range someWorkers {
		r := begun(t, "P20.7, W4", 400, 4, 2)
		var frames, want [][]byte
		for i := range 60 {
			v := byte(i + 1)
			frames = append(frames, commit(put(keyK, string([]byte{v}))))
			want = append(want, []byte{0, 0, v, 0, 0, 0, 0, 0, 0, 0})
			for range i % 23 {
				frames = append(frames, get(keyK, -1), get(keyK, i), get(keyK, i+2), get(keyQ, -1))
				before := []byte{0, 0, 1, 1, 0, v - 1}
				if i == 0 {
					before = []byte{0, 0, 0}
				}
				want = append(want, []byte{0, 0, 1, 1, 0, v}, before, err(151), []byte{0, 0, 0})
			}
		}
		r.repliesAre(workers, frames, desk.Serve(r.l, frames, workers), want)
		if i, wrong := r.l.Info(); wrong != nil || i.Last != 60 || i.Keys != 1 {
			r.fails("Info = %+v, %v", i, wrong)
		}
	}
}

// P20.7: a stop at the first, a middle and the last place, and another one behind it: it is answered, all behind it is ErrStopped whatever it is, and nothing behind it is done.
func TestStops(t *testing.T) {
	t.Parallel()
	r := begun(t, "P20.7", 300, 4, 3).history()
	rnd := drawn(9)
	frames := slices.Concat(everyRequest(-1)[:20], noFrames())
	for range 30 {
		frames = append(frames, drawnFrame(rnd, 10), commit(drawnBatch(rnd)...))
	}
	for place := range len(frames) + 1 {
		with := slices.Insert(slices.Clone(frames), place, stop())
		if place%3 == 1 {
			with = slices.Insert(with, place+1+rnd.Intn(len(with)-place), stop())
		}
		workers := 1 + place%16
		got := r.pair(3).serve(workers, with...)
		for i := range with {
			if stopped := string(got[i]) == string(err(201)); stopped != (i > place) || i == place && string(got[i]) != string(err(0)) {
				r.fails("a stop at %d: the reply to %d is %s", place, i, some(got[i]))
			}
		}
	}
	for _, workers := range someWorkers {
		p := r.pair(2)
		p.serve(workers, stop())
		p.serve(workers, stop(), stop())
		p.serve(workers, stop(), commit(put(keyK, "unseen")), info(), nil)
		p.serve(workers, commit(put(keyK, "seen")), stop(), commit(put(keyK, "unseen")))
		p.serve(workers, []byte{9, 9}, info(), append(stop(), 0), info())
	}
}

// P20.9: Serve keeps nothing: the second of two calls knows what the ledger knows, also behind one that was stopped or refused.
func TestServeKeepsNothing(t *testing.T) {
	r := begun(t, "P20.9", 300, 4, 3)
	for _, workers := range someWorkers {
		p := r.pair(3)
		for i := range 6 {
			p.serve(workers, get(keyK, -1), commit(put(keyK, fmt.Sprint(i))), get(keyK, -1), info())
			p.serve(workers, info(), stop(), commit(put(keyK, "unseen")))
			p.serve(workers, info(), get(keyK, i))
			desk.Serve(p.served.l, [][]byte{stop(), commit()}, 0)
			desk.Serve(nil, [][]byte{stop(), commit()}, 1)
			p.both(func(r *rig) { r.commits(put(keyQ, fmt.Sprint(i))) })
			p.serve(workers, get(keyQ, -1), info(), root(-1))
		}
	}
}

// P20.7: desks over two ledgers have nothing to do with each other, and several may be at one ledger at once, while others commit.
func TestDesksTogether(t *testing.T) {
	r := begun(t, "P20.7, P16.20", 300, 4, 2).history()
	frames := noFrames()
	for v := -2; v <= 8; v++ {
		if v != -1 { // the newest version is another one from moment to moment
			frames = append(frames, get(keyK, v), root(v), prove(keyQ, v), span(low, keyK, v), scan(low, high, v, 2), diff(v, 5))
		}
	}
	want := r.twin(5).oneByOne(frames)
	var all sync.WaitGroup
	for i := range 6 {
		all.Go(func() {
			for range 4 {
				r.repliesAre(1+i*3, frames, desk.Serve(r.l, frames, 1+i*3), want)
			}
		})
		all.Go(func() {
			other := begun(t, "P20.7", 60, 4, 2)
			for v := range 10 {
				other.repliesAre(3, nil, desk.Serve(other.l, [][]byte{commit(), root(v + 2)}, 3), [][]byte{{0, 0, byte(v + 1), 0, 0, 0, 0, 0, 0, 0}, err(151)})
			}
		})
		all.Go(func() {
			for range 4 {
				if _, wrong := r.l.Commit(raw(put(keyQ, fmt.Sprint(i)))); wrong != nil {
					t.Error(wrong)
				}
			}
		})
	}
	all.Wait()
}

// P20.7: ledger.Code of its error is the reply's error, for a ledger that another one has taken the disk from.
func TestStaleLedger(t *testing.T) {
	for _, workers := range someWorkers {
		r := begun(t, "P20.10", 60, 4, 2).commits(put(keyK, "a"))
		p := r.pair(2)
		old := p.served.l
		p.served.open(3)
		p.own.open(3)
		frames := slices.Concat([][]byte{commit(put(keyK, "b"))}, everyRequest(0), badBatches(), noFrames(), [][]byte{stop(), info(), nil})
		got := desk.Serve(old, frames, workers)
		for i, reply := range got {
			want := 3
			if _, right := plainRequest(frames[i]); !right {
				want = 200
			}
			if i == len(frames)-3 {
				want = 0
			}
			if i > len(frames)-3 {
				want = 201
			}
			if string(reply) != string(err(want)) {
				r.fails("the reply to frame %d, %s, is %v, want %d", i, some(frames[i]), reply, want)
			}
		}
		p.alike()
		p.serve(workers, frames...)
		if _, wrong := ledger.Open(p.served.d, 1); wrong != nil {
			r.fails("Open: %v", wrong)
		}
	}
}

// P20.7: a disk on which a page was spoilt ahead of its opening: each frame that looks at it is refused, all others are served.
func TestSpoiltPages(t *testing.T) {
	t.Parallel()
	r := begun(t, "P20.7", 120, 4, 3).history()
	used := 0
	if i, wrong := r.l.Info(); wrong == nil {
		used = i.Used
	}
	frames := slices.Concat(everyRequest(-1), everyRequest(2), everyRequest(5), [][]byte{commit(put(api.Key{40}, "new"))}, everyRequest(-1), [][]byte{commit(del(keyK))}, everyRequest(8), everyRequest(9))
	corrupt := 0
	for page := 2; page < used; page++ {
		for _, workers := range []int{1, 4, 16} {
			p := pair{spoiltTwin(r, page), spoiltTwin(r, page)}
			p.both(func(other *rig) { other.promise = fmt.Sprintf("P20.7: page %d of %d is spoilt", page, used) })
			if l, wrong := ledger.Open(p.served.d, 2); wrong == nil {
				p.served.l = l
				p.own.open(5)
				for _, reply := range p.serve(workers, frames...) {
					if reply[0] == 4 {
						corrupt++
					}
				}
			} else if page != used-1 {
				p.served.fails("Open: %v", wrong)
			}
		}
	}
	if corrupt < 100 {
		r.fails("only %d replies are ErrCorrupt", corrupt)
	}
}

// spoiltTwin makes a disk with the same image, one page of which is spoilt; it is not open yet.
func spoiltTwin(r *rig, page int) *rig {
	r.Helper()
	other := r.twin(1)
	if e := other.d.Flip(page, 300+page, 5); e != api.OK {
		r.Fatal(e)
	}
	return other
}

// P20.7: one worker takes the frames in their very order: so even where a page was spoilt behind the ledger's back, and it hangs on the cache what is still known, the replies are those of the ledger's own calls.
func TestOneWorkerKeepsTheOrder(t *testing.T) {
	r := begun(t, "P20.7: one worker", 120, 4, 3).commits(put(keyK, "a"), put(keyQ, "b"))
	for range 50 {
		p := pair{r.twin(2), r.twin(2)}
		p.both(func(r *rig) {
			r.l.Get(keyK[:], -1) // the branch and k's leaf, page 2, are in the cache now
			r.d.Flip(2, 77, 1)
		})
		got := p.serve(1, get(keyK, -1), get(keyQ, -1), get(keyK, -1))
		if got[0][0] != 0 || got[2][0] != 4 {
			r.fails("%v, want k's leaf known ahead of q's, and not behind it", got)
		}
	}
	r.history()
	rnd := drawn(5)
	for page := 2; page < 25; page++ {
		p := pair{r.twin(4), r.twin(4)}
		var frames [][]byte
		for range 40 {
			frames = append(frames, drawnFrame(rnd, 8))
		}
		p.serve(1, frames...)
		p.both(func(r *rig) { r.d.Flip(page, 77, 1) })
		p.serve(1, frames...)
	}
}
