package ledger_test

import (
	"bytes"
	"fmt"
	"testing"

	"ledger/api"
	"ledger/disk"
	"ledger/ledger"
)

// creates asks of a Create that it is refused, or that it is taken, and why; what is refused ahead of Format changes nothing.
func creates(t *testing.T, d *disk.Disk, width, room int, why api.Errno) *ledger.Ledger {
	t.Helper()
	var before api.Counts
	var image []byte
	epoch := 0
	if d != nil {
		before, image, epoch = d.Counts(), d.Image(), d.Epoch()
	}
	l, err := ledger.Create(d, width, room)
	if (l != nil) != (why == api.OK) || !isRefusal(err, "create", -1, why) {
		t.Errorf("P16.6: Create(%d, %d) = %v, %v, want %v", width, room, l != nil, err, why)
	}
	if d != nil && why != api.OK {
		if now := d.Counts(); now.Writes != before.Writes || now.Syncs != before.Syncs || !bytes.Equal(d.Image(), image) || d.Epoch() != epoch {
			t.Errorf("P16.6: a Create that is refused with %v has written, synced or claimed", why)
		}
	}
	return l
}

// opens asks of an Open that it is refused, or that it is taken, and why; that it writes and syncs nothing, and how often it has claimed.
func opens(t *testing.T, d *disk.Disk, room int, why api.Errno, claims int) *ledger.Ledger {
	t.Helper()
	var before api.Counts
	var image []byte
	epoch := 0
	if d != nil {
		before, image, epoch = d.Counts(), d.Image(), d.Epoch()
	}
	l, err := ledger.Open(d, room)
	if (l != nil) != (why == api.OK) || !isRefusal(err, "open", -1, why) {
		t.Errorf("P16.7: Open(%d) = %v, %v, want %v", room, l != nil, err, why)
	}
	if d != nil {
		now := d.Counts()
		if now.Writes != before.Writes || now.Syncs != before.Syncs || now.Open != before.Open || !bytes.Equal(d.Image(), image) {
			t.Errorf("P16.7: Open has written or synced: %+v, from %+v", now, before)
		}
		if d.Epoch() != epoch+claims {
			t.Errorf("P16.7: Open, %v, has claimed %d times, want %d", why, d.Epoch()-epoch, claims)
		}
	}
	return l
}

// dark takes the power of a disk.
func dark(d *disk.Disk) {
	d.Arm(1)
	d.Sync()
}

// P16.6: which widths and rooms may be.
func TestCreateNumbers(t *testing.T) {
	for _, width := range []int{lowest, -1, 0, 33, 34, 256 + 4, 1<<32 + 4, highest} {
		for _, room := range []int{lowest, -1, 0, 1, 8, 4096, 4097, highest} {
			creates(t, blank(t, 16), width, room, api.ErrArg)
		}
	}
	for _, room := range []int{lowest, -1, 0, 4097, 1<<32 + 4, highest} {
		creates(t, blank(t, 16), 4, room, api.ErrArg)
	}
	for width := 1; width <= 32; width++ {
		for _, room := range []int{1, 2, 4095, 4096} {
			d := blank(t, 3+width)
			r := &rig{t, "P16.6", d, creates(t, d, width, room, api.OK), &model{width: width, pages: 3 + width, used: 2, maps: []entries{{}}}, room}
			r.asks(keyK, keyM)
		}
	}
}

// P16.6: a fresh ledger has both superblocks and no other page, and it alone has claimed the disk.
func TestCreateLays(t *testing.T) {
	for _, pages := range []int{3, 16, 4096} {
		d := blank(t, pages)
		l := creates(t, d, 32, 1, api.OK)
		if c := d.Counts(); c.Writes != 2 || c.Syncs != 2 || c.Open != 0 || d.Epoch() != 1 {
			t.Errorf("P16.6: %+v, epoch %d", c, d.Epoch())
		}
		if rest := d.Image()[512:]; !bytes.Equal(rest, make([]byte, len(rest))) {
			t.Error("P16.6: something lies behind the superblocks")
		}
		if l.Live() != nil {
			t.Error("P16.6: a fresh ledger is not live")
		}
	}
}

// P16.6, P16.7: the order of the refusals, each with all that come behind it.
func TestOrderOfCreateAndOpen(t *testing.T) {
	rooms := []int{lowest, -1, 0, 4097, highest}
	for _, width := range []int{0, 4, 33} {
		for _, room := range append(rooms, 8) {
			creates(t, nil, width, room, api.ErrArg)
			opens(t, nil, room, api.ErrArg, 0)
		}
	}
	taken := begun(t, "P16.6", 16, 4, 8)
	halved := loaded(t, append(make([]byte, 256), taken.d.Image()[256:]...))
	blankDisk := blank(t, 16)
	for _, d := range []*disk.Disk{taken.d, halved, blankDisk} {
		for _, width := range []int{0, 33} {
			creates(t, d, width, 8, api.ErrArg)
			creates(t, d, width, 0, api.ErrArg)
		}
		for _, room := range rooms {
			creates(t, d, 4, room, api.ErrArg)
			opens(t, d, room, api.ErrArg, 0)
		}
	}
	if taken.l.Live() != nil {
		t.Error("P16.7: a refused Open has claimed the disk")
	}
	creates(t, taken.d, 4, 8, api.ErrTaken)
	creates(t, taken.d, 32, 1, api.ErrTaken)
	creates(t, halved, 4, 8, api.ErrTaken)
	opens(t, blankDisk, 8, api.ErrBlank, 0)
	opens(t, halved, 8, api.ErrCorrupt, 0)
	for _, d := range []*disk.Disk{taken.d, halved, blankDisk} {
		dark(d)
		for _, room := range append(rooms, 8) {
			opens(t, d, room, api.ErrDown, 0)
			for _, width := range []int{0, 4, 33} {
				creates(t, d, width, room, api.ErrDown)
			}
		}
	}
}

// P16.7: a disk of another size than the superblock says is refused, and one on which a file was never laid to its end.
func TestOpenOfNoLedger(t *testing.T) {
	r := begun(t, "P16.7", 16, 4, 8)
	r.commits(put(keyK, "a"))
	longer := append(r.d.Image(), make([]byte, 256)...)
	opens(t, loaded(t, longer), 8, api.ErrCorrupt, 0)
	opens(t, loaded(t, r.d.Image()[:15*256]), 8, api.ErrCorrupt, 0)
	fresh := begun(t, "P16.7", 16, 4, 8).d.Image()
	half := make([]byte, len(fresh))
	copy(half, fresh[:256])
	opens(t, loaded(t, half), 8, api.ErrBlank, 0)
	creates(t, loaded(t, half), 7, 8, api.OK)
	creates(t, loaded(t, longer), 7, 8, api.ErrTaken)
	for _, bit := range []int{0, 100, 511} {
		for _, page := range []int{0, 1} {
			d := loaded(t, r.d.Image())
			d.Flip(page, bit, 1)
			opens(t, d, 8, api.ErrCorrupt, 0)
			creates(t, d, 4, 8, api.ErrTaken)
		}
	}
	d := loaded(t, r.d.Image())
	d.Flip(0, 512, 1)
	opens(t, d, 8, api.OK, 1)
}

// P16.7: a head whose record does not stand: ErrCorrupt, and the disk is claimed; a page that Open does not look at does not matter to it.
func TestOpenOfASpoiltRecord(t *testing.T) {
	r := begun(t, "P16.7", 32, 4, 8)
	for _, val := range []string{"a", "b", "c", "d"} {
		r.commits(put(keyK, val), put(keyQ, val))
	}
	image := r.d.Image()
	for page := 2; page < r.m.used; page++ {
		d := loaded(t, image)
		old, err := ledger.Open(d, 8)
		if err != nil {
			t.Fatal(err)
		}
		d.Flip(page, 99, 5)
		if page != r.m.used-1 {
			opens(t, d, 8, api.OK, 1)
			continue
		}
		opens(t, d, 8, api.ErrCorrupt, 1)
		if err := old.Live(); !isRefusal(err, "live", -1, api.ErrStale) {
			t.Errorf("P16.7: what was opened earlier is not stale: %v", err)
		}
	}
}

// P16.7: an Open claims the disk: whatever was opened earlier is stale, and stays so.
func TestOpenClaims(t *testing.T) {
	r := begun(t, "P16.7", 32, 4, 8)
	r.commits(put(keyK, "a"))
	olds := []*rig{{t, "P16.7: the first", r.d, r.l, r.m.twin(), 8}}
	for i := range 4 {
		for _, old := range olds[:i] {
			old.dies(api.ErrStale)
		}
		r.l = opens(t, r.d, 1+i, api.OK, 1)
		r.room = 1 + i
		r.commits(put(keyQ, fmt.Sprint(i)))
		r.asks(keyK, keyQ)
		olds = append(olds, &rig{t, fmt.Sprintf("P16.7: number %d", i), r.d, r.l, r.m.twin(), 1 + i})
	}
	for _, old := range olds[:4] {
		old.dies(api.ErrStale)
	}
}

// P16.7: Open reads the two slots and the head's record, and nothing else.
func TestOpenReads(t *testing.T) {
	r := begun(t, "P16.7", 600, 4, 8)
	before := r.d.Counts().Reads
	r.open(1)
	if n := r.d.Counts().Reads - before; n != 2 {
		t.Errorf("P16.7: an empty ledger is opened with %d reads", n)
	}
	for i := range 20 {
		r.commits(put(keyOf(fmt.Sprintf("%05b", i)), "x"))
		before := r.d.Counts().Reads
		r.open(1)
		if n := r.d.Counts().Reads - before; n != 3 {
			t.Errorf("P16.22: a ledger is opened with %d reads", n)
		}
	}
}

// R2: a ledger that is not live refuses each call with that, ahead of all else.
func TestLedgerThatIsNotLive(t *testing.T) {
	ends := map[string]func(r *rig) api.Errno{
		"without power": func(r *rig) api.Errno {
			dark(r.d)
			return api.ErrDown
		},
		"behind a crash": func(r *rig) api.Errno {
			r.d.Crash(nil)
			return api.ErrStale
		},
		"behind another opening": func(r *rig) api.Errno {
			opens(r.T, r.d, 8, api.OK, 1)
			return api.ErrStale
		},
		"behind a claim": func(r *rig) api.Errno {
			r.d.Claim()
			return api.ErrStale
		},
		"behind a crash, without power": func(r *rig) api.Errno {
			r.d.Crash(nil)
			dark(r.d)
			return api.ErrStale
		},
		"without power, behind a claim": func(r *rig) api.Errno {
			dark(r.d)
			r.d.Claim()
			return api.ErrStale
		},
	}
	for name, end := range ends {
		fresh := begun(t, "R2: fresh, "+name, 3, 4, 8)
		fresh.dies(end(fresh))
		full := begun(t, "R2: full, "+name, 4, 4, 8)
		full.commits(put(keyK, "a"))
		full.dies(end(full))
		r := begun(t, "R2: "+name, 32, 4, 8)
		r.commits(put(keyK, "a"))
		r.commits(put(keyQ, "b"))
		r.get(keyK[:], 1)
		was := r.l.Tally()
		r.dies(end(r))
		if now := r.l.Tally(); now != was || now.Clean == 0 {
			t.Errorf("P16.17: the tally of a ledger that is not live is %+v, from %+v", now, was)
		}
		top := based(t, "R2: at the highest version, "+name, 16, 4, 1, 1<<30, entries{keyK: "a"})
		top.dies(end(top))
	}
}

// P16.23: Live looks at no page.
func TestLiveLooksAtNothing(t *testing.T) {
	r := begun(t, "P16.23", 16, 4, 1)
	r.commits(put(keyK, "a"))
	for page := range 4 {
		r.d.Flip(page, 77, 3)
	}
	before, tally := r.d.Counts(), r.l.Tally()
	if err := r.l.Live(); err != nil {
		t.Errorf("P16.23: Live = %v", err)
	}
	if r.d.Counts() != before || r.l.Tally() != tally {
		t.Errorf("P16.23: Live has looked at a page")
	}
}
