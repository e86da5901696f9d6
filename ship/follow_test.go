package ship_test

import (
	"fmt"
	"slices"
	"testing"

	"ledger/api"
	"ledger/disk"
	"ledger/ledger"
	"ledger/ship"
)

// beginning makes a ledger that has the versions of another one up to n, on a disk of so many pages.
func (r *rig) beginning(pages, room, n int) *rig {
	r.Helper()
	return imported(r.T, r.promise, pages, room, r.tells(r.first, n).stream())
}

// P19.10, P19.11: streams that begin earlier than, at and behind the newest version, and end below, at and above it.
func TestFollow(t *testing.T) {
	for name, whole := range map[string]*rig{
		"from 0 on": begun(t, "P19.10", 60, 4, 3).history(),
		"from 6 on": based(t, "P19.10", 60, 32, 3, 6, entries{keyQ: "x", keyOf("01"): "y"}).history(),
		"width 1":   begun(t, "P19.10", 60, 1, 3).history(),
	} {
		t.Run(name, func(t *testing.T) {
			t.Parallel()
			whole.T = t
			for n := whole.first; n <= whole.last(); n++ {
				base := whole.beginning(60, 3, n)
				for from := whole.first; from <= whole.last(); from++ {
					for to := from; to <= whole.last(); to++ {
						r := base.twin(1 + to)
						r.promise = fmt.Sprintf("P19.10: version %d follows %d to %d", n, from, to)
						if stream := whole.tells(from, to).stream(); from > n || to < n {
							r.followIs(stream, api.ErrBase)
							r.holds()
						} else {
							r.follows(stream)
						}
					}
				}
			}
		})
	}
}

// What may be wrong with a Follow, in the order in which it is told.
const (
	notLive = 1 << iota
	noStream
	elsewhere
	corrupt
	otherMap
	mismatch
	full
	headSpoilt
	allWrong
)

// trial is a Follow with some things that are wrong, of which there are kinds.
type trial struct {
	wrong, kind int
}

func (x trial) has(what int) bool { return x.wrong&what != 0 }

// told tells what such a Follow is refused with, and where.
func (x trial) told(dead api.Errno) (int, api.Errno) {
	switch {
	case x.has(notLive):
		return -1, dead
	case x.has(noStream):
		return -1, api.ErrStream
	case x.has(elsewhere):
		return -1, api.ErrBase
	case x.has(corrupt):
		return -1, api.ErrCorrupt
	case x.has(otherMap):
		return -1, api.ErrBase
	case x.has(mismatch):
		return 3, api.ErrMismatch
	case x.has(full):
		return 3, api.ErrFull
	}
	return 3, api.ErrCorrupt
}

// stream tells the stream of such a Follow by a ledger whose newest version is 2.
func (x trial) stream(maps []entries) []byte {
	s := tell(4, 0, maps...)
	if x.has(elsewhere) {
		s = []saga{tell(5, 0, maps...), tell(4, 0, maps[:2]...), tell(4, 3, maps[3:]...), tell(1, 2, maps[2:]...)}[x.kind]
	}
	if x.has(otherMap) {
		other := raw(put(high, "!"))
		for i := range s.base {
			s.base[i].val += "!"
			s.base[i].length++
		}
		for i := range s.steps {
			s.steps[i].raw, s.steps[i].length = string(other), len(other)
		}
	}
	if x.has(mismatch) {
		s.sum[0] ^= 1
		for i := range s.steps {
			s.steps[i].sum[0] ^= 1
		}
	} else if x.has(otherMap) {
		for i, m := range s.maps() {
			if i > 0 {
				s.steps[i-1].sum = m.root(s.width)
			}
		}
		s.sum = s.maps()[0].root(s.width)
	}
	stream := s.stream()
	if _, right := hear(stream); !right {
		panic("not right by its form")
	}
	if x.has(noStream) {
		stream[len(stream)-1] ^= 1
	}
	return stream
}

// P19.10, P19.11: every set of things that are wrong at once: the first of them in the chapter's order is what is told, and nothing was done.
func TestFollowRefusals(t *testing.T) {
	t.Parallel()
	maps := []entries{{}, {keyK: "a", keyQ: "b"}, {keyK: "a", keyQ: "c"}, {keyQ: "c"}, {keyQ: "d"}}
	// The tree of version 2 lies in the pages 2, 6 and 7, its record in page 8.
	two := func(pages int) *rig {
		return begun(t, "P19.10", pages, 4, 1).commits(maps[0].diff(maps[1])...).commits(maps[1].diff(maps[2])...)
	}
	small, great := two(9), two(12)
	for wrong := 1; wrong < allWrong; wrong++ {
		for kind := range 4 {
			x, r := trial{wrong, kind}, great
			if x.has(full) {
				r = small
			}
			r = r.twin(1)
			r.promise = fmt.Sprintf("P19.10: set %b, kind %d", wrong, kind)
			if x.has(corrupt) {
				r.d.Flip([]int{2, 6, 7, 2}[kind], 1500, 1)
			}
			if x.has(headSpoilt) {
				r.d.Flip(8, 1500, 1)
			}
			if x.has(notLive) {
				r.kill([]api.Errno{api.ErrStale, api.ErrDown}[kind%2])
			}
			at, why := x.told(r.dead)
			r.followAt(x.stream(maps), at, why)
		}
	}
	great.follows(trial{}.stream(maps))
	var none *ledger.Ledger
	for kind := range 4 {
		for _, wrong := range []int{0, noStream, elsewhere, mismatch} {
			if n, err := ship.Follow(none, trial{wrong, kind}.stream(maps)); n != 0 || !isRefusal(err, "follow", -1, api.ErrArg) {
				t.Errorf("P19.10: no ledger: %d, %v", n, err)
			}
		}
	}
}

// P19.10: another width, whichever it is and whatever is the same beside it.
func TestFollowOfAnotherWidth(t *testing.T) {
	for width := 1; width <= 32; width++ {
		r := begun(t, fmt.Sprintf("P19.10: width %d", width), 40, width, 4).commits()
		for _, other := range []int{1, 4, 31, 32} {
			stream := tell(other, 0, entries{}, entries{}, entries{keyK: "a"}).stream()
			if other == width {
				r.twin(4).follows(stream)
			} else {
				r.followIs(stream, api.ErrBase)
			}
		}
	}
}

// P19.10, P19.12: which map a stream says for the newest version is told key by key: one key more, one less, another key, another value, all in one.
func TestFollowOfAnotherMap(t *testing.T) {
	a, b, c := keyOf("001"), keyOf("01"), keyOf("1")
	own := entries{a: "1", b: "", c: text(4, 128)}
	r := based(t, "P19.12", 60, 4, 4, 5, own)
	for i, other := range []entries{
		{}, {a: "1", b: ""}, {b: "", c: text(4, 128)}, {a: "1", c: text(4, 128)},
		{a: "1", b: "", c: text(4, 128), high: ""}, {low: "", a: "1", b: "", c: text(4, 128)}, {a: "1", b: "", keyOf("0111"): "", c: text(4, 128)},
		{a: "2", b: "", c: text(4, 128)}, {a: "", b: "", c: text(4, 128)}, {a: "1", b: "x", c: text(4, 128)}, {a: "1", b: "", c: text(4, 127)}, {a: "1", b: "", c: text(5, 128)},
		{flipped(a, 255): "1", b: "", c: text(4, 128)}, {a: "1", b: "", flipped(c, 255): text(4, 128)},
	} {
		r.promise = fmt.Sprintf("P19.12: map %d", i)
		r.followIs(tell(4, 5, other).stream(), api.ErrBase)
		r.followIs(tell(4, 5, other, own).stream(), api.ErrBase)
		r.followIs(tell(4, 4, own, other, own).stream(), api.ErrBase)
		r.twin(1).follows(tell(4, 4, other, own, other).stream())
		r.twin(1).follows(tell(4, 5, own, other, own).stream())
	}
	empty := begun(t, "P19.12: the empty map", 40, 4, 4).commits()
	empty.followIs(tell(4, 1, own).stream(), api.ErrBase)
	empty.followIs(tell(4, 0, entries{}, own, entries{}).stream(), api.ErrBase)
	empty.twin(1).follows(tell(4, 1, entries{}, own).stream())
}

// P19.12: with a small width two unlike maps have one root: the stream that says the other one is refused all the same, and one whose batches lead from it too.
func TestFollowOfAnotherMapWithTheSameRoot(t *testing.T) {
	t.Parallel()
	keys := []api.Key{keyK, keyQ, keyOf("0"), keyOf("1"), keyOf("011"), high}
	own := entries{keyK: "own"}
	var others []entries
	for i := range 3000 {
		other := entries{keys[i%len(keys)]: text(i, 2)}
		if i%5 == 0 {
			other[keys[i%3]] = text(i, 3)
		}
		if other.root(1) == own.root(1) {
			others = append(others, other)
		}
	}
	if (entries{}).root(1) == own.root(1) {
		others = append(others, entries{})
	}
	if len(others) < 10 {
		t.Fatalf("only %d maps have the root", len(others))
	}
	r := based(t, "P19.12", 60, 1, 4, 5, own)
	for _, other := range others {
		r.followIs(tell(1, 5, other).stream(), api.ErrBase)
		r.followIs(tell(1, 5, other, entries{}).stream(), api.ErrBase)
		r.followIs(tell(1, 4, entries{}, other, own).stream(), api.ErrBase)
	}
	r.follows(tell(1, 4, others[0], own, others[1], others[2]).stream())
}

// P19.7, P19.12: at width 1 most maps of one key have the root of the empty map: nothing is taken for another thing.
func TestMapsWithTheEmptyRoot(t *testing.T) {
	t.Parallel()
	met := 0
	for i := range 200 {
		m := entries{keyOf("01"): text(i, 3)}
		if m.root(1) != emptySum(1, 256) {
			continue
		}
		met++
		s := tell(1, 2, m, entries{}, m, m)
		r := imported(t, "P19.8", s.need(), 4, s.stream())
		if n := r.export(2, -1); len(n) != len(s.stream()) {
			r.fails("exported again it has %d bytes", len(n))
		}
		empty := begun(t, "P19.12", 40, 1, 4).commits().commits()
		empty.followIs(s.stream(), api.ErrBase)
		if met == 10 {
			return
		}
	}
	t.Fatalf("only %d maps", met)
}

// P19.10: the versions up to the newest one need not hold: nobody commits them again.
func TestFollowAsksOnlyWhatIsNew(t *testing.T) {
	whole := begun(t, "P19.10", 60, 4, 3).history()
	for n := 1; n < whole.last(); n++ {
		s := whole.tells(0, whole.last())
		s.sum[0] ^= 1
		for v := 1; v <= n; v++ {
			s.steps[v-1].sum[1] ^= 1
		}
		r := whole.beginning(60, 3, n)
		r.promise = fmt.Sprintf("P19.10: up to %d no version holds", n)
		r.follows(s.stream())
	}
}

// P19.10, P19.11: a version that does not hold: all below it are made, nothing of it; and a right stream goes on from there.
func TestFollowStopsAtAMismatch(t *testing.T) {
	t.Parallel()
	whole := begun(t, "P19.11", 60, 4, 3).history()
	for n := 0; n < whole.last(); n++ {
		base := whole.beginning(60, 3, n)
		for wrong := n + 1; wrong <= whole.last(); wrong++ {
			for later := wrong; later <= whole.last(); later++ {
				s := whole.tells(0, whole.last())
				s.steps[wrong-1].sum[3] ^= 128
				if later > wrong {
					s.steps[later-1].sum[0] ^= 1
				}
				r := base.twin(2)
				r.promise = fmt.Sprintf("P19.11: version %d does not hold", wrong)
				r.stops(s.stream(), wrong, api.ErrMismatch)
				r.followAt(s.stream(), wrong, api.ErrMismatch)
				r.follows(whole.tells(wrong-1, whole.last()).stream())
			}
		}
	}
}

// P19.10, P19.11: what a Commit refuses with is what Follow refuses with, at its version: no page is left.
func TestFollowStopsAtAFullDisk(t *testing.T) {
	t.Parallel()
	whole := begun(t, "P19.11", 60, 4, 3).history()
	stream := whole.export(0, -1)
	used, needs := 2, whole.tells(0, whole.last()).needs()
	for n, pages := range needs {
		for left := range pages {
			if used+left < 3 {
				continue
			}
			r := begun(t, fmt.Sprintf("P19.11: %d pages are left for version %d", left, n+1), used+left, 4, 3)
			r.stops(stream, n+1, api.ErrFull)
			r.followAt(stream, n+1, api.ErrFull)
		}
		used += pages
	}
	begun(t, "P19.11: just enough", used, 4, 3).follows(stream)
}

// P19.10, P19.11: what a Commit refuses with is what Follow refuses with, at its version: a page does not stand that the Commit looks at.
func TestFollowStopsAtACorruptPage(t *testing.T) {
	t.Parallel()
	whole := begun(t, "P19.11", 60, 4, 3).history()
	for range 4 {
		whole.commits().commits(put(keyOf("1"), text(whole.last(), 2)))
	}
	stream := whole.export(0, -1)
	met := [3]int{} // ahead of the commits, in one of them, nowhere
	for n := 1; n < whole.last(); n++ {
		base := whole.beginning(60, 3, n)
		for page := 2; page < base.used-1; page++ {
			image := base.d.Image()
			image[256*page+188] ^= 16
			// What a Scan and one Commit behind the other meet on such a disk, asked of the ledger itself.
			plain, other := *base, *base
			plain.d, other.d = loaded(t, image), loaded(t, image)
			plain.open(1)
			other.open(1)
			other.promise = fmt.Sprintf("P19.11: version %d, page %d is spoilt", n, page)
			if _, _, err := plain.l.Scan(low[:], high[:], n, 1000); err != nil {
				other.followIs(stream, api.ErrCorrupt)
				met[0]++
				continue
			}
			at, why := 0, api.OK
			for v := n + 1; v <= whole.last() && why == api.OK; v++ {
				if _, err := plain.l.Commit(raw(whole.maps[v-1].diff(whole.maps[v])...)); err != nil {
					at, why = v, ledger.Code(err)
				}
			}
			if why != api.OK {
				met[1]++
			} else {
				met[2]++
			}
			newest, err := ship.Follow(other.l, stream)
			if want := whole.last(); why == api.OK && (newest != want || err != nil) {
				other.fails("Follow = %d, %v, want %d", newest, err, want)
			}
			if why != api.OK && (newest != 0 || !isRefusal(err, "follow", at, why)) {
				other.fails("Follow = %d, %v, want %v at %d", newest, err, why, at)
			}
			if !slices.Equal(other.d.Image(), plain.d.Image()) {
				other.fails("another image than that of the commits")
			}
		}
	}
	if met[0] < 15 || met[1] < 5 || met[2] < 15 {
		t.Errorf("refused where: %v", met)
	}
}

// P19.10: a batch that nobody exported is committed as it is: its changes in any order, some without effect.
func TestFollowOfOtherBatches(t *testing.T) {
	rnd := drawn(3)
	r := begun(t, "P19.10", 400, 4, 3)
	for range 12 {
		now := r.maps[len(r.maps)-1]
		s := tell(4, r.last(), now)
		for range rnd.Intn(4) {
			cs := drawnBatch(rnd, 6)
			now = now.behind(cs)
			s = s.then(raw(cs...), now.root(4))
		}
		r.follows(s.stream())
	}
}

// P19.11: a Follow of a stream whose end is the newest version does nothing, but asks all the same whether it is that version's map.
func TestFollowOfNothingNew(t *testing.T) {
	whole := begun(t, "P19.11", 60, 4, 3).history()
	for from := 0; from <= whole.last(); from++ {
		whole.quiet(func() {
			if n, err := ship.Follow(whole.l, whole.tells(from, whole.last()).stream()); n != whole.last() || err != nil {
				whole.fails("Follow = %d, %v", n, err)
			}
		})
	}
	fresh := begun(t, "P19.11: version 0", 3, 4, 1)
	fresh.quiet(func() { fresh.follows(fresh.export(0, 0)) })
	other := whole.tells(0, whole.last())
	other.steps[7].raw, other.steps[7].length = string(raw()), 2
	whole.followIs(other.stream(), api.ErrBase)
}

// P19.10: more keys than one Scan tells, in the ledger and in the stream: all of them are held against each other.
func TestFollowOfManyKeys(t *testing.T) {
	t.Parallel()
	base := entries{}
	for _, k := range many(1250) {
		base[k] = "v"
	}
	r := based(t, "P19.10", 4096, 4, 64, 7, base)
	stream := tell(4, 7, base, base.behind([]api.Change{put(keyK, "on")})).stream()
	last := many(1250)[1249]
	for _, other := range []entries{base.behind([]api.Change{put(last, "w")}), base.behind([]api.Change{del(last)}), base.behind([]api.Change{put(high, "")}), {}} {
		r.followIs(tell(4, 7, other).stream(), api.ErrBase)
	}
	r.follows(stream)
}

// P19.10, P16.8: up to the highest version there may be.
func TestFollowToTheHighestVersion(t *testing.T) {
	r := based(t, "P19.10", 40, 4, 4, 1<<30-2, entries{keyK: "a"})
	r.follows(tell(4, 1<<30-2, entries{keyK: "a"}, entries{}, entries{keyQ: "b"}).stream())
	if _, err := r.l.Commit(raw()); !isRefusal(err, "commit", 1<<30+1, api.ErrFull) {
		r.fails("Commit = %v", err)
	}
	r.follows(tell(4, 1<<30, entries{keyQ: "b"}).stream())
	imported(t, "P19.7", 40, 4, tell(4, 1<<30-1, entries{keyK: "a"}, entries{}).stream())
}

// P19.10: the superblock's generation is the highest there may be: ErrFull at the next version, as Commit says it.
func TestFollowAtTheHighestGeneration(t *testing.T) {
	r := begun(t, "P19.10", 40, 4, 4).commits(put(keyK, "a"))
	r.d = generation(t, r.d, 1<<40-1)
	r.open(4)
	stream := tell(4, 1, entries{keyK: "a"}, entries{}, entries{keyQ: "b"}).stream()
	r.stops(stream, 3, api.ErrFull)
	r.followAt(stream, 3, api.ErrFull)
}

// generation makes a disk with the same pages whose superblocks have other generations.
func generation(t *testing.T, d *disk.Disk, newest int) *disk.Disk {
	t.Helper()
	image := d.Image()
	layGeneration(t, image, newest)
	return loaded(t, image)
}
