package store_test

import (
	"math/rand"
	"testing"

	"ledger/api"
	"ledger/disk"
)

// flushing is one history: so many pages are flushed, then others staged, then power goes in their Flush.
type flushing struct{ first, more int }

// play goes through the history up to the Flush, with power that goes at one of its acts, and tells all pages that were staged.
func (h flushing) play(t *testing.T, room, act int) (*rig, []content) {
	t.Helper()
	r := begun(t, "P8.7", 12, room)
	var pages []content
	add := func(n int) {
		for range n {
			page := r.s.Next()
			c := content{1 + page%3, text(page, 40*page%247)}
			r.stages(c.kind, c.load, page)
			pages = append(pages, c)
		}
	}
	add(h.first)
	r.flushes(lastOf(r.s.Next()), api.OK)
	add(h.more)
	r.d.Arm(act)
	return r, pages
}

// loadsAll asks for all pages from 2 on, and for none behind them.
func (r *rig) loadsAll(pages []content) {
	r.Helper()
	for i, c := range pages {
		r.loads(2+i, c.kind, c.load)
	}
	r.loadsNot(2+len(pages), api.ErrPage)
}

// P8.7, P8.10, P8.11: power goes at each write and each sync of a Flush, with every choice of what reaches the disk.
func TestPowerGoesInAFlush(t *testing.T) {
	for _, h := range []flushing{{0, 0}, {0, 1}, {1, 0}, {1, 1}, {2, 2}, {0, 3}} {
		acts := h.more + 3
		for act := 1; act <= acts; act++ {
			r, pages := h.play(t, 1, act)
			open := h.openAt(act)
			r.downInFlush(open)
			allFates(open, func(fates []byte) {
				r, _ := h.play(t, 2, act)
				old, head := r.s.Super(), lastOf(r.s.Next())
				r.flushes(head, api.ErrDown)
				r.d.Crash(fates)
				later := over(t, "P8.11", r.d, len(fates))
				// The superblock's write is the act next to the last; its bytes are all in the first sector.
				if act >= acts-1 && fates[0]%2 == 1 {
					later.tells(r.super(3, 2+len(pages), head), 0)
					later.loadsAll(pages)
				} else {
					later.tells(old, 0)
					later.loadsAll(pages[:h.first])
				}
				later.tallies(0, later.s.Super().Mark-2, max(0, later.s.Super().Mark-2-len(fates)), min(len(fates), later.s.Super().Mark-2), 0)
			})
			if t.Failed() {
				t.Fatalf("%+v, act %d", h, act)
			}
		}
		r, pages := h.play(t, 1, acts+1)
		r.flushes(lastOf(r.s.Next()), api.OK)
		r.d.Crash([]byte{15, 15, 15})
		over(t, "P8.10", r.d, 0).loadsAll(pages)
	}
}

// openAt tells how many writes are open when power goes at an act of the Flush.
func (h flushing) openAt(act int) int {
	switch {
	case act <= h.more:
		return act
	case act == h.more+1:
		return h.more
	}
	return 1
}

// downInFlush asks that a Flush in which power goes leaves all that is kept as it was, and so many writes open.
func (r *rig) downInFlush(open int) {
	r.Helper()
	was, next := r.seen(), r.f.Next()
	r.flushes(lastOf(r.s.Next()), api.ErrDown)
	now := r.seen()
	if now.super != was.super || now.next != was.next || now.staged != was.staged || now.tally != was.tally {
		r.Errorf("%s: behind a Flush that power ended: %+v, %+v, next %d", r.promise, now.super, now.tally, now.next)
	}
	if r.f.Next() != next {
		r.Errorf("%s: the file has not forgotten: its Next is %d", r.promise, r.f.Next())
	}
	if now.counts.Open != open || now.counts.Reads != was.counts.Reads || now.power {
		r.Errorf("%s: power has gone: %+v, want %d open", r.promise, now.counts, open)
	}
	r.untouched(func() {
		r.flushes(0, api.ErrDown)
		r.loadsNot(2, api.ErrDown)
		r.stagesNot(1, nil, api.ErrDown)
		r.rewinds(r.s.Next(), api.ErrDown)
	})
}

// P8.11: a crash takes all that was staged, also where no Flush was under way.
func TestCrashTakesWhatIsStaged(t *testing.T) {
	for _, fates := range [][]byte{nil, {15}, {15, 15, 15, 15}} {
		r := half(t, "P8.11", 3)
		r.d.Crash(fates)
		r.tells(r.super(2, 4, 3), 2)
		r.is("Live", r.s.Live(), api.ErrStale)
		r = over(t, "P8.11", r.d, 3)
		r.tells(r.super(2, 4, 3), 0)
		r.tallies(0, 0, 0, 0, 0)
		r.loadsAll([]content{{1, []byte("a")}, {2, []byte("bb")}})
		r.stages(2, []byte("new"), 4)
		r.flushes(4, api.OK)
		r.loads(4, 2, []byte("new"))
	}
}

// P8.11: pages of a Flush that power ended do not shine through a later, shorter one.
func TestLaterFlushWritesOver(t *testing.T) {
	for act := 1; act <= 4; act++ {
		r, _ := flushing{1, 3}.play(t, 0, act)
		r.flushes(0, api.ErrDown)
		r.d.Crash([]byte{15, 15, 15})
		r = over(t, "P8.11", r.d, 4)
		r.tells(r.super(2, 3, 2), 0)
		r.loadsNot(3, api.ErrPage)
		r.stages(1, []byte("other"), 3)
		r.flushes(3, api.OK)
		r.loadsNot(4, api.ErrPage)
		r = over(t, "P8.11", r.d, 4)
		r.tells(r.super(3, 4, 3), 0)
		r.loads(3, 1, []byte("other"))
	}
}

// P8.10, P8.11: long histories with many losses of power, over rooms that change.
func TestManyCrashes(t *testing.T) {
	for seed := range int64(80) {
		rnd := rand.New(rand.NewSource(seed))
		h := &history{rnd: rnd, rig: begun(t, "P8.10", 50, rnd.Intn(4))}
		h.last = h.s.Super()
		for range 250 {
			h.step()
			if t.Failed() {
				t.Fatalf("seed %d", seed)
			}
		}
	}
}

// history keeps what the promises say of a disk: the last superblock, and the pages from 2 up to Next.
type history struct {
	*rig
	rnd   *rand.Rand
	last  api.Super
	pages []content
}

// step does one thing to a store that is live.
func (h *history) step() {
	if h.rnd.Intn(10) == 0 {
		h.d.Arm(1 + h.rnd.Intn(8))
	}
	switch h.rnd.Intn(9) {
	case 0, 1, 2, 3:
		c := content{1 + h.rnd.Intn(3), text(h.rnd.Intn(1000), h.rnd.Intn(247))}
		if _, e := h.s.Stage(c.kind, c.load); e == api.OK {
			h.pages = append(h.pages, c)
		} else if len(h.pages) != 48 {
			h.Errorf("P8.5: Stage: %v", e)
		}
	case 4, 5:
		h.flush(h.rnd.Intn(len(h.pages)+1) + 1)
	case 6:
		next := h.last.Mark + h.rnd.Intn(len(h.pages)+3-h.last.Mark)
		h.rewinds(next, api.OK)
		h.pages = h.pages[:next-2]
	case 7:
		h.loadsAll(h.pages)
	case 8:
		if h.rnd.Intn(3) == 0 {
			h.again(h.last)
		}
	}
}

// flush flushes with a head (1 stands for none), and opens the disk again if power went.
func (h *history) flush(head int) {
	if head == 1 {
		head = 0
	}
	about := h.super(h.last.Generation+1, 2+len(h.pages), head)
	switch e := h.s.Flush(head); e {
	case api.OK:
		h.last = about
	case api.ErrDown:
		h.again(about)
	default:
		h.Errorf("P8.7: Flush: %v", e)
	}
	h.tells(h.last, 2+len(h.pages)-h.last.Mark)
}

// again crashes the disk and makes a store anew: the last superblock holds, or the one that was about to be written.
func (h *history) again(about api.Super) {
	fates := make([]byte, h.rnd.Intn(8))
	h.rnd.Read(fates)
	h.d.Crash(fates)
	if h.rnd.Intn(4) == 0 {
		twin, e := disk.Load(h.d.Image())
		if e != api.OK {
			h.Fatal(e)
		}
		h.d = twin
	}
	h.rig = over(h.T, "P8.11", h.d, h.rnd.Intn(5))
	if s := h.s.Super(); s != h.last && s != about {
		h.Errorf("P8.11: %+v is there, neither %+v nor %+v", s, h.last, about)
	}
	h.last = h.s.Super()
	h.pages = h.pages[:h.last.Mark-2]
	h.tells(h.last, 0)
	h.loadsAll(h.pages)
}
