package ship_test

import (
	"bytes"
	"fmt"
	"slices"
	"testing"

	"ledger/api"
	"ledger/disk"
	"ledger/file"
	"ledger/frame"
	"ledger/ledger"
	"ledger/ship"
)

// P19.7: every set of things that are wrong at once: the first of them in the chapter's order is what is told, and nothing was done.
func TestImportRefusals(t *testing.T) {
	t.Parallel()
	const (
		noPower = 1 << iota
		noRoom
		noStream
		taken
		mismatch
		full
		all
	)
	said := tell(4, 2, entries{keyK: "a", keyQ: "b"}, entries{keyQ: "b"}, entries{keyQ: "c"})
	for wrong := range 2 * all {
		if wrong%all == 0 {
			continue
		}
		has := func(what int) bool { return wrong&what != 0 }
		pages, room, s := said.need(), 4, said.twin()
		if has(mismatch) {
			s.steps[0].sum[1] ^= 1
			s.steps[1].sum[1] ^= 1
		}
		stream := s.stream()
		if has(noStream) {
			stream[len(stream)-1] ^= 1
		}
		if has(full) {
			pages--
		}
		if has(noRoom) {
			room = 0
		}
		d := blank(t, pages)
		if has(taken) && has(all) {
			d.Flip(wrong%2, 77, 9) // no superblock stands in this slot, and it is not empty
		} else if has(taken) {
			if _, err := ledger.Create(d, 4, 1); err != nil {
				t.Fatal(err)
			}
		}
		if has(noPower) {
			d.Arm(1)
			d.Sync()
		}
		at, why := -1, api.ErrFull
		switch {
		case has(noPower):
			why = api.ErrDown
		case has(noRoom):
			why = api.ErrArg
		case has(noStream):
			why = api.ErrStream
		case has(taken):
			why = api.ErrTaken
		case has(mismatch):
			at, why = 3, api.ErrMismatch
		}
		importIs(t, fmt.Sprintf("P19.7: set %b", wrong), d, room, stream, at, why)
	}
	imported(t, "P19.7: nothing is wrong", said.need(), 4, said.stream())
	bad := said.stream()
	bad[5] ^= 1
	for _, stream := range [][]byte{nil, bad, said.stream()} {
		for _, room := range []int{-1, 0, 4, 4097} {
			importIs(t, "P19.7: no disk", nil, room, stream, -1, api.ErrArg)
		}
	}
}

// P19.7: the rooms that may be are 1 to MaxRoom; the image is the same with each.
func TestImportRooms(t *testing.T) {
	t.Parallel()
	r := begun(t, "P19.7", 60, 4, 8).history()
	stream := r.export(1, -1)
	for _, room := range []int{lowest, -1, 0, 4097, 1 << 40, highest} {
		importIs(t, fmt.Sprintf("P19.7: room %d", room), blank(t, 60), room, stream, -1, api.ErrArg)
	}
	first := imported(t, "P19.7", 60, 1, stream)
	for _, room := range []int{2, 3, 17, 4095, 4096} {
		other := imported(t, fmt.Sprintf("P19.7: room %d", room), 60, room, stream)
		if !bytes.Equal(other.d.Image(), first.d.Image()) {
			other.fails("the room is seen in the image")
		}
	}
}

// P19.7, P19.8: which disks are blank: just those of which frame.Choose says so.
func TestImportOnDisks(t *testing.T) {
	t.Parallel()
	stream := tell(4, 0, entries{}, entries{keyK: "a"}).stream()
	slot := func(s api.Super) []byte {
		b, e := frame.PackSuper(s)
		if e != api.OK {
			t.Fatal(e)
		}
		return b
	}
	pages := 8
	zero, one := slot(api.Super{Width: 9, Generation: 0, Mark: 2, Pages: 8}), slot(api.Super{Width: 9, Generation: 1, Mark: 2, Pages: 8})
	two := slot(api.Super{Width: 9, Generation: 2, Mark: 2, Pages: 8})
	other := slot(api.Super{Width: 9, Generation: 0, Mark: 3, Pages: 77})
	noise := []byte(text(1, 256))
	behind := make([]byte, 256)
	copy(behind[64:], noise) // the first sector is empty
	none := make([]byte, 256)
	for i, c := range []struct {
		a, b  []byte
		blank bool
	}{
		{none, none, true}, {zero, none, true}, {other, none, true}, {behind, none, true}, {none, behind, true}, {behind, behind, true}, {zero, behind, true},
		{zero, one, false}, {two, one, false}, {none, one, false}, {two, none, false}, {one, none, false}, {noise, none, false}, {none, noise, false}, {noise, noise, false}, {zero, zero, false},
	} {
		image := make([]byte, 256*pages)
		copy(image[:256], c.a)
		copy(image[256:], c.b)
		for p := 2; p < pages; p++ {
			copy(image[256*p:], text(p, 256)) // what lies in other pages says nothing
		}
		promise := fmt.Sprintf("P19.7: disk %d", i)
		if !c.blank {
			importIs(t, promise, loaded(t, image), 4, stream, -1, api.ErrTaken)
			continue
		}
		r := importedOn(t, promise, loaded(t, image), 4, stream)
		r.commits(put(keyQ, "more")).holds()
	}
}

// P19.7: an Import onto the disk of a ledger is refused, and that ledger stays live.
func TestImportClaimsNothing(t *testing.T) {
	r := begun(t, "P19.7", 60, 4, 4).history()
	stream := r.export(2, -1)
	for _, s := range [][]byte{stream, stream[1:], nil, r.export(0, 0)} {
		for _, room := range []int{0, 1} {
			r.quiet(func() {
				if l, err := ship.Import(r.d, room, s); l != nil || err == nil {
					r.fails("a ledger over a ledger")
				}
			})
			if err := r.l.Live(); err != nil {
				r.fails("%v", err)
			}
		}
	}
	r.commits(put(keyOf("0111"), "on")).holds()
}

// drawnMaps tells a row of maps, each not further from the one ahead of it than a batch leads, with keys that part at bits that are told.
func drawnMaps(seed, n int, bits ...int) (all []entries) {
	rnd := drawn(seed)
	key := func() api.Key {
		k := keyK
		for range rnd.Intn(3) {
			k = flipped(k, bits[rnd.Intn(len(bits))])
		}
		return k
	}
	now := entries{}
	for i := range n {
		var cs []api.Change
		for range rnd.Intn(7) {
			if rnd.Intn(3) == 0 {
				cs = append(cs, del(key()))
			} else {
				cs = append(cs, put(key(), text(rnd.Intn(3), rnd.Intn(2))))
			}
		}
		now = now.behind(cs)
		if i == 0 && seed%4 == 0 {
			now = entries{}
		}
		all = append(all, now)
	}
	return all
}

// P19.7, P19.8: how many pages are needed in all: a disk with just as many is enough, one with one page less is refused and stays as it was.
func TestImportNeeds(t *testing.T) {
	for name, bits := range map[string][]int{"early": {0, 1, 2, 3}, "late": {100, 253, 254, 255}, "both": {0, 3, 40, 41, 250, 255}} {
		t.Run(name, func(t *testing.T) {
			t.Parallel()
			met := 0
			for seed := range 60 {
				from := seed % 3
				if from == 0 {
					from = 4 * (seed % 2) // version 0 begins with no key
				}
				all := drawnMaps(seed, 2+seed%4, bits...)
				if from == 0 {
					all[0] = entries{}
				}
				s := tell(1+seed%32, from, all...)
				promise := fmt.Sprintf("P19.8: %s, number %d", name, seed)
				need := s.need()
				if need < 4 || need > 4096 {
					continue
				}
				met++
				importIs(t, promise, blank(t, need-1), 1+seed, s.stream(), -1, api.ErrFull)
				r := imported(t, promise, need, 1+seed, s.stream())
				if _, err := r.l.Commit(raw()); !isRefusal(err, "commit", r.last()+1, api.ErrFull) {
					r.fails("a page is left: %v", err)
				}
			}
			if met < 45 {
				t.Errorf("only %d streams", met)
			}
		})
	}
}

// P19.8: batches that nobody exports, of which some changes take no effect: these cost nothing.
func TestImportNeedsOfOtherBatches(t *testing.T) {
	t.Parallel()
	rnd := drawn(88)
	for i := range 60 {
		now := entries{}.behind(drawnBatch(rnd, 8))
		s := tell(4, 3, now)
		for range 1 + rnd.Intn(3) {
			cs := drawnBatch(rnd, 6)
			for _, k := range now.rising() {
				// As it is already, if nothing else is said of the key.
				if rnd.Intn(2) == 0 && !slices.ContainsFunc(cs, func(c api.Change) bool { return c.Key == k }) {
					cs = append(cs, put(k, now[k]))
				}
			}
			now = now.behind(cs)
			s = s.then(raw(cs...), now.root(4))
		}
		promise := fmt.Sprintf("P19.8: number %d", i)
		importIs(t, promise, blank(t, s.need()-1), 4, s.stream(), -1, api.ErrFull)
		imported(t, promise, s.need(), 4, s.stream())
	}
}

// P19.8: a key that goes next to others that part late: the rows above it count, those beneath its neighbours do not.
func TestImportNeedsOfDeletes(t *testing.T) {
	t.Parallel()
	at := func(bits ...int) api.Key {
		k := keyK
		for _, b := range bits {
			k = flipped(k, b)
		}
		return k
	}
	for i, c := range []struct {
		maps []entries
		need int
	}{
		{[]entries{{at(): "a"}, {}}, 2 + 2 + 1},
		{[]entries{{at(): "a", at(0): "b"}, {at(): "a"}}, 2 + 4 + 1},
		{[]entries{{at(): "a", at(0): "b", at(1): "c"}, {at(): "a", at(1): "c"}}, 2 + 6 + 1 + 1},            // the root is new, the row of one bit is not
		{[]entries{{at(): "a", at(9): "b", at(4): "c"}, {at(): "a", at(9): "b"}}, 2 + 3 + 10 + 1 + 5 + 1},   // rows of 0 to 4 bits
		{[]entries{{at(): "a", at(9): "b", at(20): "c"}, {at(): "a", at(9): "b"}}, 2 + 3 + 21 + 1 + 10 + 1}, // rows of 0 to 9 bits
		{[]entries{{at(): "a", at(255): "b"}, {at(): "a", at(255): "c"}}, 2 + 2 + 256 + 1 + 1 + 256 + 1},
		{[]entries{{at(): "a", at(255): "b"}, {at(): "c"}}, 2 + 2 + 256 + 1 + 1 + 1},
		{[]entries{{}, {}, {}}, 2 + 1 + 1 + 1},
	} {
		s := tell(4, 6, c.maps...)
		if s.need() != c.need {
			t.Errorf("case %d: the plain reading needs %d, want %d", i, s.need(), c.need)
		}
		promise := fmt.Sprintf("P19.8: case %d", i)
		imported(t, promise, c.need, 4, s.stream())
		importIs(t, promise, blank(t, c.need-1), 4, s.stream(), -1, api.ErrFull)
	}
}

// P19.7: some version does not hold: told at the lowest one, also where no disk is great enough.
func TestImportMismatch(t *testing.T) {
	t.Parallel()
	r := begun(t, "P19.7", 60, 4, 4).history()
	for from := range 3 {
		s := r.tells(from, r.last())
		versions := s.to - s.from + 1
		for set := 1; set < 1<<versions; set++ {
			if versions > 7 && set%11 != 1 && set&(set-1) != 0 {
				continue
			}
			wrong := s.twin()
			low := -1
			for i := versions - 1; i >= 0; i-- {
				if set>>i&1 == 0 {
					continue
				}
				low = s.from + i
				if i == 0 {
					wrong.sum[set%4] ^= 64
				} else {
					wrong.steps[i-1].sum[set%4] ^= 1
				}
			}
			for _, pages := range []int{3, 60} {
				importIs(t, fmt.Sprintf("P19.7: wrong: %b", set), blank(t, pages), 4, wrong.stream(), low, api.ErrMismatch)
			}
		}
	}
}

// P19.3: which map each version has by the batches ahead: a wrong one of them makes all later ones other maps.
func TestImportOfOtherBatches(t *testing.T) {
	t.Parallel()
	r := begun(t, "P19.3", 60, 32, 4).history()
	s := r.tells(1, r.last())
	for i := range s.steps {
		wrong := s.twin()
		batch := raw(put(keyOf("0111"), "never"))
		wrong.steps[i].raw, wrong.steps[i].length = string(batch), len(batch)
		importIs(t, "P19.3: another batch", blank(t, 60), 4, wrong.stream(), 2+i, api.ErrMismatch)
	}
	wrong := s.twin()
	wrong.base[0].val = "b"
	importIs(t, "P19.3: another value", blank(t, 60), 4, wrong.stream(), 1, api.ErrMismatch)
	wrong.sum = entries{keyK: "b"}.root(32)
	importIs(t, "P19.3: another value", blank(t, 60), 4, wrong.stream(), 2, api.ErrMismatch)
}

// P19.7: maps that no disk holds: told as too many pages, if they hold, and as a mismatch at the lowest version that does not.
func TestImportOfMapsThatNoDiskHolds(t *testing.T) {
	t.Parallel()
	first := entries{}
	for _, k := range many(4096) {
		first[k] = ""
	}
	s := tell(4, 3, first)
	for i := range 4 {
		var cs []api.Change
		for j := range 64 {
			cs = append(cs, put(api.Key{99, byte(i), byte(j), 1}, "more"))
		}
		cs[5] = del(many(4096)[i])
		maps := s.maps()
		next := maps[len(maps)-1].behind(cs)
		s = s.then(raw(cs...), next.root(4))
	}
	importIs(t, "P19.7: a great map", blank(t, 4096), 4, s.stream(), -1, api.ErrFull)
	wrong := s.twin()
	wrong.steps[3].sum[0] ^= 1
	importIs(t, "P19.7: a great map", blank(t, 4096), 4, wrong.stream(), 7, api.ErrMismatch)
	wrong.steps[1].sum[3] ^= 128
	importIs(t, "P19.7: a great map", blank(t, 3), 4, wrong.stream(), 5, api.ErrMismatch)
	wrong.sum[2] ^= 2
	importIs(t, "P19.7: a great map", blank(t, 3), 4, wrong.stream(), 3, api.ErrMismatch)
}

// replayed tells the image that the lower layers lay down for a stream, step by step as P19.8 says.
func replayed(t *testing.T, pages int, s saga) []byte {
	t.Helper()
	said := s.maps()
	var r *rig
	if s.from == 0 {
		r = begun(t, "P19.8", pages, s.width, 4)
	} else {
		r = based(t, "P19.8", pages, s.width, 4, s.from, said[0])
	}
	for _, x := range s.steps {
		if _, err := r.l.Commit([]byte(x.raw)); err != nil {
			t.Fatal(err)
		}
	}
	return r.d.Image()
}

// P19.8, R8: every byte that an Import lays down, of streams that begin at 0 and of others.
func TestImportedImages(t *testing.T) {
	t.Parallel()
	for seed := range 40 {
		from := []int{0, 1, 2, 1<<30 - 7}[seed%4]
		all := drawnMaps(seed, 1+seed%6, 0, 1, 2, 9, 40)
		if from == 0 {
			all[0] = entries{}
		}
		s := tell(1+seed%32, from, all...)
		if seed%3 == 0 && from < 3 {
			// A batch as nobody exports it: its keys fall, and some changes take no effect.
			last := all[len(all)-1]
			cs := []api.Change{put(high, "h"), del(keyOf("111")), put(low, "l")}
			s = s.then(raw(cs...), last.behind(cs).root(s.width))
		}
		pages := s.need() + seed%3
		if pages < 3 {
			pages = 3
		}
		r := imported(t, fmt.Sprintf("P19.8: number %d", seed), pages, 1+seed%9, s.stream())
		if !bytes.Equal(r.d.Image(), replayed(t, pages, s)) {
			r.fails("another image")
		}
	}
}

// P19.8: from version 0 on the image is that of the ledger's own disk, where its batches were those that an Export makes.
func TestImageFromVersion0(t *testing.T) {
	r := begun(t, "P19.8", 60, 4, 3).history()
	other := imported(t, "P19.8", 60, 5, r.export(0, -1))
	if !bytes.Equal(other.d.Image(), r.d.Image()) {
		r.fails("another image")
	}
	bare := imported(t, "P19.8", 3, 1, begun(t, "P19.8", 3, 9, 1).export(0, 0))
	d := blank(t, 3)
	if e := file.Format(d, 9); e != api.OK || !bytes.Equal(d.Image(), bare.d.Image()) {
		bare.fails("another image than that of an empty file")
	}
}

// P19.7: the answer is the open ledger: it is live, and what was opened over the disk earlier is not.
func TestImportedIsLive(t *testing.T) {
	r := imported(t, "P19.7", 40, 4, tell(4, 3, entries{keyK: "a"}).stream())
	if err := r.l.Live(); err != nil {
		r.fails("%v", err)
	}
	again, err := ledger.Open(r.d, 4)
	if err != nil || r.l.Live() == nil || again.Live() != nil {
		r.fails("two ledgers over one disk: %v", err)
	}
	var d *disk.Disk
	if l, err := ship.Import(d, 4, nil); l != nil || !isRefusal(err, "import", -1, api.ErrArg) {
		r.fails("no disk: %v", err)
	}
}
