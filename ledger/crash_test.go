package ledger_test

import (
	"bytes"
	"fmt"
	"testing"

	"ledger/api"
	"ledger/ledger"
)

// allFates goes through every choice of which sectors of so many open writes reach the disk.
func allFates(open int, each func(fates []byte)) {
	for n := range 1 << (4 * open) {
		fates := make([]byte, open)
		for i := range fates {
			fates[i] = byte(n >> (4 * i) & 15)
		}
		each(fates)
	}
}

// P16.6, P16.19, W3: power goes at each act of a Create, with every choice of what reaches the disk: behind it the disk is blank, or there is a fresh ledger.
func TestPowerGoesInACreate(t *testing.T) {
	t.Parallel()
	for act := 1; act <= 5; act++ {
		for fate := range byte(32) {
			d := blank(t, 8)
			d.Arm(act)
			l, err := ledger.Create(d, 4, 8)
			if act == 5 {
				if l == nil || err != nil {
					t.Errorf("P16.6: four acts are not enough: %v", err)
				}
				continue
			}
			if l != nil || !isRefusal(err, "create", -1, api.ErrDown) || d.Epoch() != 0 {
				t.Errorf("P16.6: power goes at act %d: %v", act, err)
			}
			d.Crash([]byte{fate})
			r := &rig{t, fmt.Sprintf("W3: act %d, fate %d", act, fate), d, nil, &model{width: 4, pages: 8, used: 2, maps: []entries{{}}}, 8}
			if act >= 3 && fate%2 == 1 {
				creates(t, d, 4, 8, api.ErrTaken)
			} else {
				opens(t, d, 8, api.ErrBlank, 0)
				r.m.width = 7
				creates(t, d, 7, 1, api.OK)
			}
			r.open(8)
			r.asks(keyK)
			r.commits(put(keyK, "a"))
			r.asks(keyK)
		}
	}
}

// falls is a ledger and a batch in whose Commit power goes.
type falls struct {
	name  string
	cs    []api.Change
	begin func(t *testing.T) *rig
}

func someFalls() []falls {
	two := func(t *testing.T) *rig {
		r := begun(t, "P16.19", 40, 4, 4)
		r.commits(put(keyK, "a"))
		r.commits(put(keyQ, "b"))
		return r
	}
	return []falls{
		{"the first version, empty", nil, func(t *testing.T) *rig { return begun(t, "P16.19", 40, 4, 4) }},
		{"the first version", []api.Change{put(keyK, "a")}, func(t *testing.T) *rig { return begun(t, "P16.19", 40, 4, 4) }},
		{"nothing takes effect", []api.Change{put(keyK, "a")}, two},
		{"a key goes", []api.Change{del(keyK)}, two},
		{"a value is another one", []api.Change{put(keyK, "z")}, two},
		{"from 9 on", []api.Change{put(keyK, "z")}, func(t *testing.T) *rig {
			return based(t, "P16.19", 40, 4, 4, 9, entries{keyK: "a"})
		}},
	}
}

// P16.19, W3: power goes at each act of a Commit, with every choice of what reaches the disk: behind it there are all versions of the commits that answered OK; and the one that was under way, just if the first sector of its superblock reached the disk.
func TestPowerGoesInACommit(t *testing.T) {
	for _, f := range someFalls() {
		t.Run(f.name, func(t *testing.T) {
			t.Parallel()
			f.eachAct(t)
		})
	}
}

// eachAct lets power go at each act of the Commit.
func (f falls) eachAct(t *testing.T) {
	t.Helper()
	whole := f.begin(t)
	pages := cost(whole.m.newest(), whole.m.newest().behind(f.cs)) + 1
	for act := 1; act <= pages+3; act++ {
		open := 1
		if act <= pages+1 {
			open = min(act, pages)
		}
		allFates(open, func(fates []byte) {
			r := whole.reopened(4)
			r.promise = fmt.Sprintf("P16.19: %s: act %d, fates %v", f.name, act, fates)
			r.falls(f.cs, act, fates, act >= pages+2 && fates[0]%2 == 1)
		})
		if t.Failed() {
			return
		}
	}
	r := whole.reopened(4)
	r.d.Arm(pages + 4)
	r.commits(f.cs...)
}

// falls lets power go at an act of a Commit, lets some sectors reach the disk, and asks what is there behind it.
func (r *rig) falls(cs []api.Change, act int, fates []byte, through bool) {
	r.Helper()
	used, at := r.m.used, r.m.last()+1
	synced := r.d.Image()[512 : 256*used]
	r.d.Arm(act)
	if v, err := r.l.Commit(raw(cs...)); v != 0 || !isRefusal(err, "commit", at, api.ErrDown) {
		r.fails("Commit = %d, %v", v, err)
	}
	r.stays(api.ErrDown)
	r.l.Tally()
	if n := r.d.Crash(fates); n != len(fates) {
		r.fails("%d writes were open", n)
	}
	r.stays(api.ErrStale)
	if through {
		r.m.commit(cs)
	}
	r.open(1 + act%3)
	r.info()
	few := len(fates) < 3 || (fates[0]+fates[1]+fates[2])%8 == 0
	r.quiet(func() {
		r.Helper()
		for v := r.m.last(); v >= r.m.first; v-- {
			// Version 0 is slow to tell: the empty map's digest is worked out each time.
			if v > 0 || few {
				r.root(v)
				r.get(keyK[:], v)
				r.diff(v, -1)
			}
		}
	})
	if !bytes.Equal(r.d.Image()[512:256*used], synced) {
		r.fails("W6: a page below the mark is another one")
	}
	if few {
		r.commits(put(keyQ, "behind"))
		r.get(keyQ[:], -1)
		r.open(2)
		r.info()
	}
}

// stays asks that a ledger is dead, without asking all.
func (r *rig) stays(why api.Errno) {
	r.Helper()
	r.m.dead = why
	r.info()
	r.get(keyK[:], 0)
	r.root(-1)
	r.diff(0, -1)
	if v, err := r.l.Commit(nil); v != 0 || !isRefusal(err, "commit", r.m.last()+1, why) {
		r.fails("Commit = %d, %v", v, err)
	}
	if _, _, err := r.l.Preview(nil); !isRefusal(err, "preview", r.m.last()+1, why) {
		r.fails("Preview: %v", err)
	}
}

// P16.19: a crash outside of a Commit takes nothing, whatever was asked or refused ahead of it.
func TestCrashOutsideOfACommit(t *testing.T) {
	r := begun(t, "P16.19", 40, 4, 4)
	for i := range 6 {
		r.commits(put(keyK, fmt.Sprint(i)), put(keyQ, "b"))
		r.preview(raw(put(keyK, "preview")))
		r.commit([]byte{1})
		r.commit(raw(put(keyM, "too much")))
		if n := r.d.Crash([]byte{15, 15, 15}); n != 0 {
			r.fails("%d writes were open", n)
		}
		r.dies(api.ErrStale)
		r.open(1 + i)
		r.asks(keyK)
	}
}

// P16.19: power that goes again and again in one and the same Commit, whose pages are partly there, does no harm.
func TestManyFallsInOneCommit(t *testing.T) {
	r := begun(t, "P16.19", 40, 4, 4)
	r.commits(put(keyK, "a"))
	for i := range 200 {
		other := []api.Change{put(keyK, fmt.Sprint(i)), put(keyQ, fmt.Sprint(-i))}
		r.d.Arm(1 + i%5)
		if _, err := r.l.Commit(raw(other...)); ledger.Code(err) != api.ErrDown {
			r.fails("%v", err)
		}
		r.d.Crash([]byte{byte(i), byte(i >> 1), byte(3 * i), byte(5 * i), byte(7 * i)})
		r.open(1 + i%4)
		r.info()
	}
	r.commits(put(keyK, "end"))
	r.asks(keyK, keyQ)
}

// P16.17: of a ledger in whose Commit power went the tally is told; how many are held is free.
func TestTallyBehindALossOfPower(t *testing.T) {
	r := begun(t, "P16.17", 40, 4, 2)
	r.commits(put(keyK, "a"), put(keyQ, "b"))
	was := r.l.Tally()
	r.d.Arm(1)
	r.l.Commit(raw(put(keyK, "z")))
	for range 2 {
		now := r.l.Tally()
		if now.Hits < was.Hits || now.Misses < was.Misses || now.Gone < was.Gone || now.Clean > 2 {
			r.fails("%+v, from %+v", now, was)
		}
		r.d.Crash(nil)
	}
}

// P16.21: two ledgers on two disks have nothing to do with each other.
func TestTwoDisks(t *testing.T) {
	one, two := begun(t, "P16.21: one", 40, 4, 2), begun(t, "P16.21: two", 60, 32, 8)
	for i := range 5 {
		one.commits(put(keyK, fmt.Sprint(i)))
		two.commits(put(keyK, fmt.Sprint(-i)), put(keyQ, "q"))
		two.commits()
		one.asks(keyK)
		two.asks(keyK)
	}
	one.d.Crash(nil)
	one.dies(api.ErrStale)
	two.asks(keyK, keyQ)
	two.commits(del(keyK))
	dark(two.d)
	two.dies(api.ErrDown)
	one.open(3)
	one.commits(del(keyK))
	one.asks(keyK)
}

// P16.21: of several ledgers over one disk the one that was opened last is live.
func TestOneDisk(t *testing.T) {
	r := begun(t, "P16.21", 60, 4, 2)
	all := []*ledger.Ledger{r.l}
	for i := range 5 {
		r.commits(put(keyK, fmt.Sprint(i)))
		r.open(1 + i)
		all = append(all, r.l)
		for j, l := range all {
			want := api.ErrStale
			if j == len(all)-1 {
				want = api.OK
			}
			if err := l.Live(); !isRefusal(err, "live", -1, want) {
				r.fails("of %d ledgers number %d: %v", len(all), j, err)
			}
		}
	}
	before := r.d.Image()
	for _, l := range all[:5] {
		if v, err := l.Commit(raw(put(keyQ, "late"))); v != 0 || ledger.Code(err) != api.ErrStale {
			r.fails("a stale ledger: Commit = %d, %v", v, err)
		}
	}
	if !bytes.Equal(before, r.d.Image()) {
		r.fails("a stale ledger has written")
	}
	r.asks(keyK)
	creates(t, r.d, 4, 8, api.ErrTaken)
	r.info()
}

// R6, W6: the cache's room is seen in no answer and no image.
func TestRoomIsNotSeen(t *testing.T) {
	t.Parallel()
	var images [][]byte
	for _, room := range []int{1, 2, 3, 7, 4096} {
		r := history(t, fmt.Sprintf("W6: room %d", room), begun(t, "", 100, 4, room))
		r.asks(keyK, keyOf("001"), high)
		r.commit(raw(put(keyM, "too much")))
		r.commits(del(high))
		images = append(images, r.d.Image())
	}
	for i, image := range images {
		if !bytes.Equal(image, images[0]) {
			t.Errorf("W6: the image of room %d is another one", i)
		}
	}
}

// P16.18, W6: what a version answers never changes, and no page below an acknowledged mark does.
func TestThePastStays(t *testing.T) {
	t.Parallel()
	r := begun(t, "P16.18", 200, 2, 3)
	keys := []api.Key{keyK, keyQ, keyOf("01")}
	past := map[string]string{}
	remember := func() {
		t.Helper()
		for v := 0; v <= r.m.last(); v++ {
			said := r.said(v, keys)
			place := fmt.Sprint(v)
			if old, has := past[place]; has && old != said {
				r.fails("version %d says otherwise", v)
			}
			past[place] = said
		}
	}
	var below []byte
	for i := range 12 {
		if image := r.d.Image()[512 : 256*r.m.used]; !bytes.HasPrefix(image, below) {
			r.fails("W6: a page below the mark is another one")
		} else {
			below = image
		}
		r.commits(put(keys[i%3], fmt.Sprint(i)), del(keys[(i+1)%3]))
		remember()
		r.commit(raw(put(keyM, "x"), put(keyK, "too much")))
		r.commit([]byte("no batch"))
		r.preview(raw(del(keyK)))
		remember()
		if i%3 == 0 {
			r.d.Crash(nil)
			r.open(1 + i%5)
			remember()
		}
		if i%4 == 1 {
			r.d.Arm(2)
			r.l.Commit(raw(put(keyK, "lost"), put(keyQ, "lost")))
			r.d.Crash([]byte{15, 15})
			r.open(2)
			remember()
		}
	}
}

// said tells all that a version answers, as one text.
func (r *rig) said(version int, keys []api.Key) (all string) {
	r.Helper()
	sum, err := r.l.Root(version)
	all = fmt.Sprintf("%x %v", sum, err)
	for _, k := range keys {
		a, err := r.l.Get(k[:], version)
		p, why := r.l.Prove(k[:], version)
		s, reason := r.l.Span(k[:], high[:], version)
		list, more, no := r.l.Scan(low[:], k[:], version, 2)
		all += fmt.Sprintf(" %v %v %x %v %x %v %v %t %v", a, err, p, why, s, reason, list, more, no)
	}
	for v := range version {
		cs, err := r.l.Diff(v, version)
		all += fmt.Sprintf(" %v %v", cs, err)
	}
	return all
}
