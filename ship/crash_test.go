package ship_test

import (
	"bytes"
	"fmt"
	"slices"
	"testing"

	"ledger/api"
	"ledger/audit"
	"ledger/disk"
	"ledger/ledger"
	"ledger/ship"
)

// fall is an act at which power goes: how many writes are open then, and how many publishings have come through if the first of them does not reach the disk with its first sector, and if it does.
type fall struct {
	open, sure, perhaps int
}

// publishing tells the acts of one publishing of so many pages, behind so many others.
func publishing(pages, others int) (all []fall) {
	for i := range pages {
		all = append(all, fall{i + 1, others, others})
	}
	return append(all, fall{pages, others, others}, fall{1, others, others + 1}, fall{1, others, others + 1})
}

// falls tells the acts of an Import: the file is laid by two superblocks, of which the second one counts, then come its publishings.
func (s saga) falls() []fall {
	all := []fall{{1, 0, 0}, {1, 0, 0}, {1, 0, 1}, {1, 0, 1}}
	for i, pages := range s.needs() {
		all = append(all, publishing(pages, 1+i)...)
	}
	return all
}

// someFates tells choices of which sectors of so many open writes reach the disk: of one write all there are.
func someFates(open, seed int) (all [][]byte) {
	if open == 1 {
		for fate := range byte(16) {
			all = append(all, []byte{fate})
		}
		return append(all, nil)
	}
	rnd := drawn(seed)
	all = [][]byte{nil, bytes.Repeat([]byte{15}, open), bytes.Repeat([]byte{1}, open), bytes.Repeat([]byte{14}, open)}
	for range 4 {
		fates := make([]byte, open)
		rnd.Read(fates)
		all = append(all, fates)
	}
	return all
}

// through tells how many publishings have come through.
func (f fall) through(fates []byte) int {
	if len(fates) > 0 && fates[0]%2 == 1 {
		return f.perhaps
	}
	return f.sure
}

// clean asks that the auditor finds nothing.
func (r *rig) clean() {
	r.Helper()
	report, e := audit.Check(r.d.Image())
	if e != api.OK || len(report.Findings) > 0 || report.First != r.first || report.Last != r.last() || report.Mark != r.used {
		r.fails("P17.13, W8: the auditor finds %+v, %v", report, e)
	}
}

// P19.9, W3: power goes at each act of an Import. Behind it there is nothing, and it may be tried again; or, if the stream does not begin at 0, the empty ledger; or the stream's versions up to some one.
func TestPowerGoesInAnImport(t *testing.T) {
	k := entries{keyK: "a"}
	for name, s := range map[string]saga{
		"version 0 alone":        tell(4, 0, entries{}),
		"from version 0 on":      tell(4, 0, entries{}, k, entries{keyK: "a", keyQ: "b"}, entries{keyK: "a", keyQ: "b"}, entries{keyQ: "b"}),
		"from version 2 on":      tell(4, 2, entries{keyK: "a", keyQ: "b"}, entries{keyK: "a", keyQ: "b"}, entries{keyQ: "b"}),
		"version 1 alone, empty": tell(1, 1, entries{}),
		"version 9 alone":        tell(32, 9, entries{keyK: "a", keyQ: "b", keyOf("011"): "c"}),
		"from an empty map on":   tell(7, 4, entries{}, k, entries{}),
	} {
		t.Run(name, func(t *testing.T) {
			t.Parallel()
			s.eachAct(t)
		})
	}
}

// eachAct lets power go at each act of an Import.
func (s saga) eachAct(t *testing.T) {
	t.Helper()
	pages := s.need() + 3
	whole := imported(t, "P19.9", pages, 4, s.stream())
	acts := s.falls()
	for i, f := range acts {
		for _, fates := range someFates(f.open, i) {
			d := blank(t, pages)
			d.Arm(i + 1)
			if l, err := ship.Import(d, 1+i%5, s.stream()); l != nil || !isRefusal(err, "import", -1, api.ErrDown) {
				t.Fatalf("P19.7: power goes at act %d: %v", i+1, err)
			}
			importIs(t, "P19.7: no power", d, 0, nil, -1, api.ErrDown)
			if n := d.Crash(fates); n != f.open {
				t.Fatalf("P19.8: act %d: %d writes were open, want %d", i+1, n, f.open)
			}
			s.leaves(t, fmt.Sprintf("P19.9: act %d, fates %v", i+1, fates), d, whole, f.through(fates))
		}
		if t.Failed() {
			return
		}
	}
	d := blank(t, pages)
	d.Arm(len(acts) + 1)
	importedOn(t, "P19.8: all acts", d, 4, s.stream())
}

// leaves asks what is on the disk behind the crash, if so many publishings came through, and that it goes on from there.
func (s saga) leaves(t *testing.T, promise string, d *disk.Disk, whole *rig, through int) {
	t.Helper()
	if through == 0 {
		s.leavesNothing(t, promise, d, whole)
		return
	}
	r := &rig{T: t, promise: promise, d: d, width: s.width, maps: []entries{{}}, used: 2}
	if s.from == 0 || through > 1 {
		versions := through
		if s.from > 0 {
			versions--
		}
		r.first, r.maps = s.from, s.maps()[:versions]
		for _, n := range s.needs()[:through-1] {
			r.used += n
		}
	}
	r.open(2)
	r.holds()
	r.clean()
	importIs(t, promise, d, 4, s.stream(), -1, api.ErrTaken)
	if r.first == s.from {
		r.follows(s.stream())
		if !bytes.Equal(d.Image(), whole.d.Image()) {
			r.fails("gone on with, it is another image")
		}
		return
	}
	r.followIs(s.stream(), api.ErrBase)
	r.commits(put(keyK, "on")).holds()
}

// leavesNothing asks that the disk is blank, and that any stream may be taken in.
func (s saga) leavesNothing(t *testing.T, promise string, d *disk.Disk, whole *rig) {
	t.Helper()
	if l, err := ledger.Open(d, 4); l != nil || !isRefusalOf(err, "open", api.ErrBlank) {
		t.Errorf("%s: Open: %v", promise, err)
	}
	if _, e := audit.Check(d.Image()); e != api.ErrBlank {
		t.Errorf("%s: the auditor: %v", promise, e)
	}
	twin := loaded(t, d.Image())
	importedOn(t, promise+", another stream", twin, 4, tell(9, 1, entries{}).stream()).clean()
	r := importedOn(t, promise+", once more", d, 4, s.stream())
	if !bytes.Equal(d.Image(), whole.d.Image()) {
		r.fails("tried again, it is another image")
	}
}

// isRefusalOf tells whether a call of package ledger was refused, without a version.
func isRefusalOf(err error, call string, why api.Errno) bool {
	f, ok := err.(*ledger.Fault)
	return ok && f.Call == call && f.At == -1 && ledger.Code(err) == why
}

// P19.11, W3: power goes at each act of a Follow: all versions below are there, and the one that was under way or not, as behind any Commit; and the Follow can be tried again.
func TestPowerGoesInAFollow(t *testing.T) {
	whole := begun(t, "P19.11", 60, 4, 3).history()
	whole.promise = "P19.11"
	for _, n := range []int{0, 4} {
		t.Run(fmt.Sprint("from ", n), func(t *testing.T) {
			t.Parallel()
			mine := *whole
			mine.T = t
			base := mine.beginning(60, 3, n)
			stream := mine.tells(n/2, mine.last()).stream()
			act := 0
			for i, pages := range mine.tells(n, mine.last()).needs()[min(n, 1):] {
				for _, f := range publishing(pages, i) {
					act++
					for _, fates := range someFates(f.open, act) {
						r := base.twin(1 + act%4)
						r.promise = fmt.Sprintf("P19.11: act %d, fates %v", act, fates)
						r.fallsInAFollow(&mine, stream, act, n+1+f.sure, n+f.through(fates), fates)
					}
					if t.Failed() {
						return
					}
				}
			}
			r := base.twin(2)
			r.d.Arm(act + 1)
			r.follows(stream)
		})
	}
}

// fallsInAFollow lets power go in a Follow while a version is made, and asks what is there behind it.
func (r *rig) fallsInAFollow(whole *rig, stream []byte, act, at, newest int, fates []byte) {
	r.Helper()
	r.d.Arm(act)
	if n, err := ship.Follow(r.l, stream); n != 0 || !isRefusal(err, "follow", at, api.ErrDown) {
		r.fails("Follow = %d, %v, want ErrDown at %d", n, err, at)
	}
	r.followIs(stream, api.ErrDown)
	r.followIs(nil, api.ErrDown)
	r.d.Crash(fates)
	r.followIs(stream, api.ErrStale)
	r.maps = whole.maps[:newest+1]
	r.used = 2
	for _, pages := range r.tells(0, newest).needs() {
		r.used += pages
	}
	r.open(2)
	r.holds()
	if len(fates) == 1 && fates[0] > 1 && fates[0] < 14 {
		return // what else of the superblock's page has come says nothing: 14 and 15 stand for it
	}
	r.clean()
	r.maps = slices.Clone(r.maps)
	r.follows(stream)
	if !bytes.Equal(r.d.Image(), whole.d.Image()) {
		r.fails("gone on with, it is another image")
	}
}

// P19.9, P19.11: power goes again and again, wherever it is drawn, until all is taken in.
func TestPowerGoesAgainAndAgain(t *testing.T) {
	t.Parallel()
	whole := begun(t, "P19.9", 60, 4, 3).history()
	for seed := range 60 {
		rnd := drawn(seed)
		from := seed % 5
		stream := whole.export(from, -1)
		d := blank(t, 60)
		var l *ledger.Ledger
		falls := 0
		for {
			if falls > 200 {
				t.Fatalf("P19.9: number %d: it never comes through", seed)
			}
			d.Arm(1 + rnd.Intn(30))
			var err error
			if l == nil {
				l, err = ship.Import(d, 1+rnd.Intn(4), stream)
			} else {
				_, err = ship.Follow(l, stream)
			}
			if err == nil {
				break
			}
			fates := make([]byte, 20)
			rnd.Read(fates)
			d.Crash(fates)
			falls++
			if l, err = ledger.Open(d, 1+rnd.Intn(4)); err != nil && !isRefusalOf(err, "open", api.ErrBlank) {
				t.Fatalf("P19.9: number %d: %v", seed, err)
			}
			if l == nil {
				continue
			}
			if info, err := l.Info(); err != nil || info.First != from {
				// The empty ledger: nobody can follow from there, a blank disk is taken in its place.
				d, l = blank(t, 60), nil
			}
		}
		d.Arm(0)
		s := whole.tells(from, whole.last())
		r := &rig{T: t, promise: fmt.Sprintf("P19.9: number %d, %d falls", seed, falls), d: d, l: l, width: 4, room: 4, first: from, used: s.need(), maps: s.maps()}
		r.holds()
		r.clean()
		if other := imported(t, "P19.9", 60, 4, stream); !bytes.Equal(d.Image()[512:256*r.used], other.d.Image()[512:256*r.used]) {
			r.fails("other pages")
		}
	}
}
