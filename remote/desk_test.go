package remote_test

import (
	"bytes"
	"errors"
	"fmt"
	"slices"
	"testing"

	"ledger/api"
	"ledger/batch"
	"ledger/desk"
	"ledger/disk"
	"ledger/ledger"
	"ledger/ship"
)

// house is a ledger with a desk in front of it, and the maps of its versions.
type house struct {
	*testing.T
	d       *disk.Disk
	l       *ledger.Ledger
	w       int
	maps    []entries
	workers int
}

// built makes a fresh ledger.
func built(t *testing.T, pages, width int) *house {
	t.Helper()
	d, e := disk.New(pages)
	if e != api.OK {
		t.Fatal(e)
	}
	l, wrong := ledger.Create(d, width, 8)
	if wrong != nil {
		t.Fatal(wrong)
	}
	return &house{t, d, l, width, []entries{{}}, 1}
}

// newest tells the number of the last version.
func (h *house) newest() int { return len(h.maps) - 1 }

// commits commits by the ledger's own call.
func (h *house) commits(cs ...api.Change) *house {
	h.Helper()
	raw, e := batch.Build(cs...)
	if e != api.OK {
		h.Fatal(e)
	}
	if _, wrong := h.l.Commit(raw); wrong != nil {
		h.Fatal(wrong)
	}
	h.maps = append(h.maps, h.maps[h.newest()].behind(cs...))
	return h
}

// lived lets some versions come: keys come, are changed and go, some batches take no effect, and once the map is empty again.
func (h *house) lived(seed int) *house {
	h.Helper()
	h.commits(put(keyK, "a"))
	h.commits(put(keyQ, "bc"))
	h.commits()
	h.commits(put(keyK, "a"), del(high))
	h.commits(h.maps[4].to(entries{})...)
	rnd := drawn(seed)
	for range 8 {
		h.commits(drawnBatch(rnd)...)
	}
	return h
}

// serve lets the desk serve frames; each time another number of workers is at it.
func (h *house) serve(frames ...[]byte) [][]byte {
	h.workers = h.workers%16 + 1
	return desk.Serve(h.l, frames, h.workers)
}

// session begins one that trusts the ledger's root of a version.
func (h *house) session(promise string, v int) *couple {
	h.Helper()
	root, wrong := h.l.Root(v)
	if wrong != nil || root != h.maps[v].root(h.w) {
		h.Fatalf("the root of version %d: %x, %v", v, root, wrong)
	}
	return begun(h.T, promise, h.w, v, root)
}

// reads asks for much by a session, and tells what is refused; what is taken must be what the ledger's version holds.
func (h *house) reads(c *couple, own bool) (refused []api.Errno) {
	h.Helper()
	v := c.p.v
	m := h.maps[v]
	for _, k := range append(m.rising(), low, keyK, keyQ, high, api.Key{32}, api.Key{99}) {
		a, e := c.takeGet(k, h.serve(c.askGet(k))[0])
		if e != api.OK {
			refused = append(refused, e)
			continue
		}
		if !sameAnswer(a, m.answer(k)) {
			c.fails("version %d: TakeGet(%x): %v, want %v", v, k, a, m.answer(k))
		}
		if own {
			if said, wrong := h.l.Get(k[:], v); wrong != nil || !sameAnswer(a, said) {
				c.fails("version %d: TakeGet(%x): %v, the ledger says %v, %v", v, k, a, said, wrong)
			}
		}
	}
	for _, s := range [][2]api.Key{{low, high}, {keyK, keyQ}, {keyK, keyK}, {{32}, {64}}, {{99}, {99}}, {keyQ, high}} {
		f, e := c.askSpan(s[0], s[1])
		if e != api.OK {
			c.fails("AskSpan: %v", e)
		}
		list, e := c.takeSpan(s[0], s[1], h.serve(f)[0])
		if e != api.OK {
			refused = append(refused, e)
			continue
		}
		if !sameEntries(list, m.between(s[0], s[1])) {
			c.fails("version %d: TakeSpan(%x, %x): %s", v, s[0], s[1], some(list))
		}
		if own {
			if said, more, wrong := h.l.Scan(s[0][:], s[1][:], v, 1000); wrong != nil || more || !sameEntries(list, said) {
				c.fails("version %d: TakeSpan(%x, %x): %s, the ledger says %s, %v", v, s[0], s[1], some(list), some(said), wrong)
			}
		}
	}
	return refused
}

// change makes a change by a session and the desk.
func (h *house) change(c *couple, cs ...api.Change) (int, api.Errno) {
	h.Helper()
	frames, e := c.askChange(cs...)
	if e != api.OK {
		c.fails("AskChange: %v", e)
	}
	return c.takeChange(cs, h.serve(frames...)...)
}

// follow follows by a session and the desk.
func (h *house) follow(c *couple, to int) (int, api.Errno) {
	h.Helper()
	f, e := c.askMoves(to)
	if e != api.OK {
		return 0, e
	}
	moves := h.serve(f)[0]
	frames, e := c.askFollow(to, moves)
	if e != api.OK {
		return 0, e
	}
	return c.takeFollow(to, moves, h.serve(frames...)...)
}

// P21.12: at every version TakeGet and TakeSpan answer what the ledger answers of it.
func TestDeskReads(t *testing.T) {
	t.Parallel()
	for _, w := range []int{1, 2, 4, 32} {
		h := built(t, 300, w).lived(w)
		for v := range h.maps {
			c := h.session(fmt.Sprint("P21.12: width ", w), v)
			if refused := h.reads(c, true); len(refused) > 0 {
				c.fails("version %d: refused: %v", v, refused)
			}
			c.headIs(v, h.maps[v].root(w))
		}
	}
}

// P21.12: a TakeChange ends with the ledger's new version and root, change behind change.
func TestDeskChanges(t *testing.T) {
	t.Parallel()
	for _, w := range []int{1, 2, 4, 32} {
		h := built(t, 1200, w)
		c := h.session(fmt.Sprint("P21.12: width ", w), 0)
		rnd := drawn(100 + w)
		for v := range 40 {
			cs := drawnBatch(rnd)
			if v == 20 {
				cs = manyPuts(64, 128)
			}
			got, e := h.change(c, cs...)
			h.maps = append(h.maps, h.maps[v].behind(cs...))
			info, wrong := h.l.Info()
			if got != v+1 || e != api.OK || wrong != nil || info.Last != v+1 {
				c.fails("change %d: %d, %v, the ledger's newest version is %d", v, got, e, info.Last)
			}
			c.headIs(info.Last, info.Sum)
			c.headIs(v+1, h.maps[v+1].root(w))
		}
		if refused := h.reads(c, true); len(refused) > 0 {
			c.fails("refused: %v", refused)
		}
	}
}

// P21.12: where others have committed since v, ahead of the frames or among them, a TakeChange ends with ErrBehind and the head stays; TakeFollow brings the session to where the ledger is.
func TestOthersAhead(t *testing.T) {
	t.Parallel()
	for _, w := range []int{1, 4, 32} {
		for _, ahead := range []int{1, 2, 5} {
			for _, among := range []bool{false, true} {
				h := built(t, 300, w).lived(7)
				v := h.newest()
				c := h.session(fmt.Sprint("P21.12: width ", w), v)
				cs := []api.Change{put(keyK, "mine"), del(high)}
				frames, _ := c.askChange(cs...)
				var replies [][]byte
				if among {
					replies = h.serve(frames[:2]...)
					frames = frames[2:]
				}
				for i := range ahead {
					h.commits(put(keyK, text(i, 9)), put(api.Key{200, byte(i)}, "theirs"))
				}
				replies = append(replies, h.serve(frames...)...)
				_, e := c.takeChange(cs, replies...)
				c.is("others were ahead", e, api.ErrBehind)
				c.headIs(v, h.maps[v].root(w))
				h.maps = append(h.maps, h.maps[h.newest()].behind(cs...)) // the desk has committed it all the same
				to, e := h.follow(c, h.newest())
				if to != h.newest() || e != api.OK {
					c.fails("TakeFollow: %d, %v", to, e)
				}
				c.headIs(h.newest(), h.maps[h.newest()].root(w))
				if v, e := h.change(c, del(keyK)); v != h.newest()+1 || e != api.OK {
					c.fails("a change behind that: %d, %v", v, e)
				}
			}
		}
	}
}

// P21.12: a TakeFollow ends with the ledger's version and its root, from every version to every later one; then all is taken of that version.
func TestDeskFollows(t *testing.T) {
	t.Parallel()
	for _, w := range []int{1, 4, 32} {
		h := built(t, 300, w).lived(20 + w)
		for v := range h.maps {
			for to := v + 1; to < len(h.maps); to++ {
				c := h.session(fmt.Sprint("P21.12: width ", w), v)
				got, e := h.follow(c, to)
				if got != to || e != api.OK {
					c.fails("TakeFollow from %d to %d: %d, %v", v, to, got, e)
				}
				root, wrong := h.l.Root(to)
				if wrong != nil {
					t.Fatal(wrong)
				}
				c.headIs(to, root)
				c.headIs(to, h.maps[to].root(w))
				if to == h.newest() {
					if refused := h.reads(c, true); len(refused) > 0 {
						c.fails("version %d: refused: %v", to, refused)
					}
				}
			}
		}
	}
}

// P21.12: of versions that the ledger does not have, or has no more, each Take is ErrServer.
func TestDeskHasNoSuchVersion(t *testing.T) {
	h := built(t, 300, 4).lived(3)
	c := h.session("P21.12", 3)
	_, e := h.follow(c, h.newest()+1)
	c.is("no such version yet", e, api.ErrServer)
	_, e = h.follow(c, last)
	c.is("no such version yet", e, api.ErrServer)
	beyond := begun(t, "P21.12", 4, h.newest()+1, h.maps[h.newest()].root(4))
	_, e = beyond.takeGet(keyK, h.serve(beyond.askGet(keyK))[0])
	beyond.is("a session ahead of the ledger", e, api.ErrServer)

	stream, wrong := ship.Export(h.l, 5, -1)
	if wrong != nil {
		t.Fatal(wrong)
	}
	d, _ := disk.New(300)
	l, wrong := ship.Import(d, 8, stream)
	if wrong != nil {
		t.Fatal(wrong)
	}
	thin := &house{t, d, l, 4, h.maps, 1}
	for _, e := range thin.reads(c, false) {
		c.is("a version that is gone", e, api.ErrServer)
	}
	_, e = thin.follow(c, h.newest())
	c.is("a version that is gone", e, api.ErrServer)
	_, e = thin.change(c, del(keyK))
	c.is("a version that is gone", e, api.ErrServer)
	c.headIs(3, h.maps[3].root(4))
	for v := 5; v < h.newest(); v++ {
		s := h.session("P21.12", v)
		if refused := thin.reads(s, true); len(refused) > 0 {
			s.fails("version %d of what was shipped: refused: %v", v, refused)
		}
	}
}

// P21.12: where the ledger refuses the commit, no page being left, or the power going at any of its acts, TakeChange is ErrServer and the head stays.
func TestLedgerRefusesTheChange(t *testing.T) {
	h := built(t, 8, 4)
	h.commits(put(keyK, "a")).commits(put(keyQ, "bc"))
	c := h.session("P21.12", 2)
	cs := []api.Change{put(keyK, "b"), put(api.Key{64}, "x")}
	_, e := h.change(c, cs...)
	c.is("a full disk", e, api.ErrServer)
	c.headIs(2, h.maps[2].root(4))
	if v, e := h.change(c); v != 3 || e != api.OK {
		c.fails("the empty batch on the last page: %d, %v", v, e)
	}
	_, e = h.change(c)
	c.is("a full disk, the empty batch", e, api.ErrServer)

	acts := actsOf(t, cs)
	if acts != 8 { // five pages, a sync, the superblock, a sync
		t.Fatalf("the change takes %d acts", acts)
	}
	through := 0
	for act := 1; act <= acts; act++ {
		h := built(t, 40, 4)
		h.commits(put(keyK, "a")).commits(put(keyQ, "bc"))
		c := h.session(fmt.Sprint("P21.12: power lost at act ", act), 2)
		h.d.Arm(act)
		_, e := h.change(c, cs...)
		c.is("power lost", e, api.ErrServer)
		c.headIs(2, h.maps[2].root(4))
		for _, e := range h.reads(c, false) {
			c.is("no power", e, api.ErrServer)
		}
		h.d.Crash(bytes.Repeat([]byte{15}, 8))
		for _, e := range h.reads(c, false) {
			c.is("a stale ledger", e, api.ErrServer)
		}
		l, wrong := ledger.Open(h.d, 8)
		if wrong != nil {
			t.Fatal(wrong)
		}
		h.l = l
		if refused := h.reads(c, true); len(refused) > 0 {
			c.fails("opened again: refused: %v", refused)
		}
		info, _ := l.Info()
		if info.Last == 3 { // the version came through: the session follows
			h.maps = append(h.maps, h.maps[2].behind(cs...))
			if v, e := h.follow(c, 3); v != 3 || e != api.OK {
				c.fails("TakeFollow to what came through: %d, %v", v, e)
			}
			c.headIs(3, info.Sum)
			through++
		}
	}
	if through != 2 { // the superblock was written, or that and synced
		t.Errorf("P21.12: the version came through %d times", through)
	}
}

// actsOf tells how many writes and syncs the desk makes for a change behind the examples' version 2.
func actsOf(t *testing.T, cs []api.Change) int {
	t.Helper()
	h := built(t, 40, 4)
	h.commits(put(keyK, "a")).commits(put(keyQ, "bc"))
	c := h.session("P21.12", 2)
	before := h.d.Counts()
	if v, e := h.change(c, cs...); v != 3 || e != api.OK {
		t.Fatalf("P21.12: TakeChange: %d, %v", v, e)
	}
	now := h.d.Counts()
	return now.Writes - before.Writes + now.Syncs - before.Syncs
}

// P21.12: a desk that was told to stop answers nothing more.
func TestStoppedDesk(t *testing.T) {
	h := built(t, 60, 4)
	h.commits(put(keyK, "a"))
	c := h.session("P21.12", 1)
	cs := []api.Change{del(keyK)}
	frames, _ := c.askChange(cs...)
	replies := h.serve(frames[0], []byte{9}, frames[1])
	_, e := c.takeChange(cs, replies[0], replies[2])
	c.is("stopped", e, api.ErrServer)
	replies = h.serve([]byte{9}, c.askGet(keyK))
	_, e = c.takeGet(keyK, replies[1])
	c.is("stopped", e, api.ErrServer)
	c.headIs(1, h.maps[1].root(4))
}

// P21.12, W5: with a bit turned in any used page each Take is ErrServer or what the version holds.
func TestSpoiltPages(t *testing.T) {
	t.Parallel()
	whole := built(t, 80, 4)
	whole.commits(put(keyK, "a")).commits(put(keyQ, "bc"), put(api.Key{32}, "")).commits(del(keyK)).commits(put(keyK, "new"))
	info, _ := whole.l.Info()
	refused := 0
	for page := 2; page < info.Used; page++ {
		d, e := disk.Load(whole.d.Image())
		if e != api.OK {
			t.Fatal(e)
		}
		if e := d.Flip(page, 9*page%256, 1<<(page%8)); e != api.OK {
			t.Fatal(e)
		}
		l, wrong := ledger.Open(d, 3)
		if wrong != nil {
			if !errors.Is(wrong, ledger.ErrCorrupt) {
				t.Errorf("page %d: %v", page, wrong)
			}
			continue
		}
		h := &house{t, d, l, 4, whole.maps, 1}
		for v := range h.maps {
			c := begun(t, fmt.Sprint("P21.12: page ", page), 4, v, h.maps[v].root(4))
			for _, e := range h.reads(c, false) {
				c.is("a spoilt page", e, api.ErrServer)
				refused++
			}
			for to := v + 1; to < len(h.maps); to++ {
				c := begun(t, c.promise, 4, v, h.maps[v].root(4))
				if _, e := h.follow(c, to); e != api.OK {
					c.is("a spoilt page", e, api.ErrServer)
					c.headIs(v, h.maps[v].root(4))
					refused++
					continue
				}
				c.headIs(to, h.maps[to].root(4))
			}
		}
	}
	if refused < 10 {
		t.Errorf("P21.12: of spoilt pages %d calls were refused", refused)
	}
}

// W9, P21.12: several sessions over one ledger, of which each changes, falls behind and follows: whatever they trust is the ledger's.
func TestManySessions(t *testing.T) {
	t.Parallel()
	for _, w := range []int{1, 3, 32} {
		h := built(t, 2000, w)
		var all []*couple
		for range 4 {
			all = append(all, h.session(fmt.Sprint("W9: width ", w), 0))
		}
		rnd := drawn(w)
		behind, through, followed := 0, 0, 0
		for range 120 {
			c := all[rnd.Intn(len(all))]
			if at := c.p.v; rnd.Intn(3) == 0 && at < h.newest() {
				to := at + 1 + rnd.Intn(h.newest()-at)
				if v, e := h.follow(c, to); v != to || e != api.OK {
					c.fails("TakeFollow from %d to %d: %d, %v", at, to, v, e)
				}
				followed++
			} else {
				cs := drawnBatch(rnd)
				_, e := h.change(c, cs...)
				was := h.newest()
				h.maps = append(h.maps, h.maps[was].behind(cs...))
				switch {
				case at == was && e == api.OK:
					through++
				case at < was && e == api.ErrBehind:
					behind++
				default:
					c.fails("a change at %d of %d: %v", at, was, e)
				}
			}
			v, root := c.s.Head()
			if root != h.maps[v].root(w) {
				c.fails("the head is %d %x", v, root)
			}
			k := drawnKey(rnd)
			if a, e := c.takeGet(k, h.serve(c.askGet(k))[0]); e != api.OK || !sameAnswer(a, h.maps[v].answer(k)) {
				c.fails("TakeGet at %d: %v, %v", v, a, e)
			}
		}
		if behind == 0 || through == 0 || followed == 0 {
			t.Errorf("W9: width %d: %d behind, %d through, %d followed", w, behind, through, followed)
		}
	}
}

// P21.12: where replies of a desk are handed to the Take of another frame, nothing wrong is taken.
func TestMixedReplies(t *testing.T) {
	t.Parallel()
	h := built(t, 200, 32).lived(5)
	v := h.newest()
	m := h.maps[v]
	keys := append(m.rising(), api.Key{99})
	var frames [][]byte
	for at := range h.maps {
		for _, k := range keys {
			frames = append(frames, proveFrame(k, at))
		}
		frames = append(frames, spanFrame(low, high, at), rootFrame(at), diffFrame(at, v), []byte{8})
	}
	replies := h.serve(frames...)
	c := h.session("P21.13", v)
	for i, reply := range slices.Concat(replies, otherKinds(), refusals()) {
		k := keys[i%len(keys)]
		if a, e := c.takeGet(k, reply); e == api.OK && !sameAnswer(a, m.answer(k)) {
			c.fails("TakeGet(%x) has taken %v", k, a)
		}
		if list, e := c.takeSpan(low, high, reply); e == api.OK && !sameEntries(list, m.between(low, high)) {
			c.fails("TakeSpan has taken %s", some(list))
		}
	}
}
