package store_test

import (
	"bytes"
	"math/rand"
	"slices"
	"testing"

	"ledger/api"
	"ledger/disk"
	"ledger/frame"
)

// plain is the chapter read word by word, over a twin disk to which the same is done.
type plain struct {
	t      *testing.T
	d      *disk.Disk
	epoch  int
	super  api.Super
	staged []content
	room   int
	clean  []int // the newest first
	kept   map[int]content
	tally  api.Tally
}

func plainOver(t *testing.T, d *disk.Disk, super api.Super, room int) *plain {
	return &plain{t: t, d: d, epoch: d.Claim(), super: super, room: room, kept: map[int]content{}}
}

func (p *plain) next() int { return p.super.Mark + len(p.staged) }

func (p *plain) live() api.Errno {
	if p.d.Epoch() != p.epoch {
		return api.ErrStale
	}
	if !p.d.Power() {
		return api.ErrDown
	}
	return api.OK
}

// use makes a page the newest clean one and lets the oldest go.
func (p *plain) use(page int, c content) {
	if i := slices.Index(p.clean, page); i >= 0 {
		p.clean = slices.Delete(p.clean, i, i+1)
	}
	p.clean = slices.Insert(p.clean, 0, page)
	p.kept[page] = c
}

func (p *plain) trim() {
	for len(p.clean) > p.room {
		p.clean = p.clean[:len(p.clean)-1]
		p.tally.Gone++
	}
}

func (p *plain) load(page int) (int, []byte, api.Errno) {
	e := p.live()
	switch {
	case e != api.OK:
		return 0, nil, e
	case page < 2 || page >= p.next():
		return 0, nil, api.ErrPage
	case page >= p.super.Mark:
		p.tally.Hits++
		c := p.staged[page-p.super.Mark]
		return c.kind, c.load, api.OK
	case slices.Contains(p.clean, page):
		p.tally.Hits++
		p.use(page, p.kept[page])
		return p.kept[page].kind, p.kept[page].load, api.OK
	}
	p.tally.Misses++
	raw, _ := p.d.Read(page)
	kind, load, e := frame.Unpack(page, raw)
	if e != api.OK {
		return 0, nil, api.ErrCorrupt
	}
	p.use(page, content{kind, load})
	p.trim()
	return kind, load, api.OK
}

func (p *plain) stage(kind int, load []byte) (int, api.Errno) {
	e := p.live()
	switch {
	case e != api.OK:
		return 0, e
	case kind < 1 || kind > 3:
		return 0, api.ErrKind
	case len(load) > 246:
		return 0, api.ErrLoad
	case p.next() == p.d.Pages():
		return 0, api.ErrFull
	}
	p.staged = append(p.staged, content{kind, bytes.Clone(load)})
	return p.next() - 1, api.OK
}

func (p *plain) rewind(next int) api.Errno {
	e := p.live()
	switch {
	case e != api.OK:
		return e
	case next < p.super.Mark || next > p.next():
		return api.ErrArg
	}
	p.staged = p.staged[:next-p.super.Mark]
	return api.OK
}

func (p *plain) flush(head int) api.Errno {
	e := p.live()
	switch {
	case e != api.OK:
		return e
	case head != 0 && (head < 2 || head >= p.next()):
		return api.ErrPage
	}
	for i, c := range p.staged {
		if p.d.Write(p.super.Mark+i, packed(p.t, c.kind, p.super.Mark+i, c.load)) != api.OK {
			return api.ErrDown
		}
	}
	s := api.Super{Width: p.super.Width, Generation: p.super.Generation + 1, Mark: p.next(), Head: head, Pages: p.super.Pages}
	if p.d.Sync() != api.OK || p.d.Write(s.Generation%2, slot(p.t, s)) != api.OK || p.d.Sync() != api.OK {
		return api.ErrDown
	}
	for i, c := range p.staged {
		p.use(p.super.Mark+i, c)
	}
	p.trim()
	p.super, p.staged = s, nil
	return api.OK
}

// pair is a store and its plain reading, over two disks; those that were made earlier are stale and are asked now and then.
type pair struct {
	*rig
	rnd     *rand.Rand
	twin    *disk.Disk
	p       *plain
	earlier []*pair
}

// P8.1 to P8.7, P8.12: rows of calls are held against the plain reading: every answer, the tally, and what the disk is behind each call.
func TestPlainRows(t *testing.T) {
	for seed := range int64(300) {
		rnd := rand.New(rand.NewSource(seed))
		x := &pair{rig: begun(t, "plain", 3+rnd.Intn(14), rnd.Intn(5)), rnd: rnd}
		twin, _ := disk.Load(x.d.Image())
		x.twin = twin
		for i := range 250 {
			x.disks()
			x.renew()
			x.call()
			x.same()
			if t.Failed() {
				t.Fatalf("seed %d, row %d", seed, i)
			}
		}
	}
}

// disks does now and then something to both disks behind the store's back.
func (x *pair) disks() {
	page, bit, acts, chance := 2+x.rnd.Intn(x.d.Pages()-2), x.rnd.Intn(2048), 1+x.rnd.Intn(8), x.rnd.Intn(100)
	fates := make([]byte, x.rnd.Intn(6))
	x.rnd.Read(fates)
	for _, d := range []*disk.Disk{x.d, x.twin} {
		switch {
		case chance < 7:
			d.Arm(acts)
		case chance < 9, !d.Power() && chance < 40:
			d.Crash(fates)
		case chance < 11:
			d.Flip(page, bit, 1)
		}
	}
}

// renew makes both stores anew, mostly where they are stale.
func (x *pair) renew() {
	stale := x.p == nil || x.p.live() == api.ErrStale
	if !x.d.Power() || x.rnd.Intn(100) >= 2 && !(stale && x.rnd.Intn(3) == 0) {
		return
	}
	if x.p != nil {
		earlier := *x
		x.earlier = append(x.earlier, &earlier)
	}
	room := x.rnd.Intn(6)
	x.rig = over(x.T, "plain", x.d, room)
	x.p = plainOver(x.T, x.twin, x.s.Super(), room)
	// The two reads of the Open, which the plain reading is spared.
	x.twin.Read(0)
	x.twin.Read(1)
}

// call asks the same of a store and of its plain reading.
func (x *pair) call() {
	if len(x.earlier) > 0 && x.rnd.Intn(12) == 0 {
		x.earlier[x.rnd.Intn(len(x.earlier))].call()
		return
	}
	if x.p == nil {
		return
	}
	number := x.rnd.Intn(x.d.Pages()+3) - 1
	switch x.rnd.Intn(10) {
	case 0, 1, 2, 3:
		kind, load := 1+x.rnd.Intn(3), text(x.rnd.Intn(1000), x.rnd.Intn(247))
		if x.rnd.Intn(10) == 0 {
			kind, load = x.rnd.Intn(6)-1, text(1, 244+x.rnd.Intn(5))
		}
		if want, e := x.p.stage(kind, load); e == api.OK {
			x.stages(kind, load, want)
		} else {
			x.stagesNot(kind, load, e)
		}
	case 4, 5, 6:
		if kind, load, e := x.p.load(number); e == api.OK {
			x.loads(number, kind, load)
		} else {
			x.loadsNot(number, e)
		}
	case 7, 8:
		x.flushes(number, x.p.flush(number))
	case 9:
		x.rewinds(number, x.p.rewind(number))
	}
}

// same asks that both are alike in all that they tell.
func (x *pair) same() {
	d, twin := x.d, x.twin
	if x.p == nil {
		return
	}
	for _, y := range append(x.earlier, x) {
		y.tells(y.p.super, len(y.p.staged))
		y.tallies(y.p.tally.Hits, y.p.tally.Misses, y.p.tally.Gone, len(y.p.clean), len(y.p.staged))
		y.is("Live", y.s.Live(), y.p.live())
		if y.s.Tally().Clean > y.p.room {
			x.Errorf("P8.9: %+v with room %d", y.s.Tally(), y.p.room)
		}
	}
	now, want := d.Counts(), twin.Counts()
	// Format and the first Open came ahead of the twin.
	now.Reads, now.Writes, now.Syncs = now.Reads-4, now.Writes-2, now.Syncs-2
	if now != want || d.Power() != twin.Power() || !bytes.Equal(d.Image(), twin.Image()) {
		x.Errorf("the disks have gone unlike ways: %+v, %+v", now, want)
	}
}
