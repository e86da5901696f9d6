package ship_test

import (
	"bytes"
	"errors"
	"fmt"
	"math/rand"
	"slices"
	"strings"
	"testing"

	"ledger/api"
	"ledger/batch"
	"ledger/disk"
	"ledger/file"
	"ledger/frame"
	"ledger/index"
	"ledger/ledger"
	"ledger/ship"
	"ledger/store"
	"ledger/tree"
)

const (
	highest = int(^uint(0) >> 1)
	lowest  = -highest - 1
)

// The keys of the chapter's examples: q differs from k in bit 0; m differs from it in bit 255.
var (
	keyK = api.Key(bytes.Repeat([]byte{7}, 32))
	keyM = flipped(keyK, 255)
	keyQ = flipped(keyK, 0)
	low  = api.Key{}
	high = keyOf(strings.Repeat("1", 256))
)

func put(k api.Key, val string) api.Change { return api.Change{Key: k, Val: []byte(val)} }

func del(k api.Key) api.Change { return api.Change{Key: k, Del: true} }

// raw tells the bytes of a batch.
func raw(cs ...api.Change) []byte {
	b, e := batch.Build(cs...)
	if e != api.OK {
		panic(e)
	}
	return b
}

// flipped tells a key with one bit turned.
func flipped(k api.Key, bit int) api.Key {
	k[bit/8] ^= 128 >> (bit % 8)
	return k
}

// text makes n bytes, others for another seed.
func text(seed, n int) string {
	b := make([]byte, n)
	for i := range b {
		b[i] = byte(seed*37 + i*i + i>>3 + 1)
	}
	return string(b)
}

// drawn tells a source of numbers that is the same each time.
func drawn(seed int) *rand.Rand { return rand.New(rand.NewSource(int64(seed))) }

// words tells the text of a refusal (P16.1).
func words(e api.Errno) string {
	switch e {
	case api.ErrArg:
		return "a number that may not be"
	case api.ErrDown:
		return "the disk has no power"
	case api.ErrStale:
		return "older than the last crash"
	case api.ErrCorrupt:
		return "the disk is corrupt"
	case api.ErrFull:
		return "no page is left"
	case api.ErrTaken:
		return "there is something already"
	case api.ErrRange:
		return "the low end lies above the high end"
	case api.ErrVersion:
		return "no such version yet"
	case api.ErrGone:
		return "a version below the first"
	case api.ErrStream:
		return "no stream"
	case api.ErrBase:
		return "the stream begins elsewhere"
	case api.ErrMismatch:
		return "another root than the stream says"
	}
	panic(e)
}

// isRefusal tells whether an error is what Wrap makes of a call's refusal; of OK it is nil.
func isRefusal(err error, call string, at int, e api.Errno) bool {
	if e == api.OK || err == nil {
		return e == api.OK && err == nil
	}
	where := call
	if at != -1 {
		where = fmt.Sprintf("%s at %d", call, at)
	}
	var f *ledger.Fault
	return errors.As(err, &f) && error(f) == err && f.Call == call && f.At == at && f.Error() == where+": "+words(e) && ledger.Code(err) == e
}

// blank makes a disk.
func blank(t *testing.T, pages int) *disk.Disk {
	t.Helper()
	d, e := disk.New(pages)
	if e != api.OK {
		t.Fatal(e)
	}
	return d
}

// loaded makes a disk of an image.
func loaded(t *testing.T, image []byte) *disk.Disk {
	t.Helper()
	d, e := disk.Load(image)
	if e != api.OK {
		t.Fatal(e)
	}
	return d
}

// state is what no refused call may change on a disk, and no Export.
type state struct {
	writes, syncs, open, epoch int
	power                      bool
	image                      string
}

func stateOf(d *disk.Disk) state {
	c := d.Counts()
	return state{c.Writes, c.Syncs, c.Open, d.Epoch(), d.Power(), string(d.Image())}
}

// rig is a ledger on its disk with the maps that its versions are to be, and the promise that is under test: whatever fails is told under its name.
type rig struct {
	*testing.T
	promise     string
	d           *disk.Disk
	l           *ledger.Ledger
	width, room int
	first, used int
	maps        []entries // from the version first on
	dead        api.Errno // what each call is refused with
}

// begun makes a fresh ledger.
func begun(t *testing.T, promise string, pages, width, room int) *rig {
	t.Helper()
	d := blank(t, pages)
	l, err := ledger.Create(d, width, room)
	if err != nil {
		t.Fatalf("%s: Create: %v", promise, err)
	}
	return &rig{T: t, promise: promise, d: d, l: l, width: width, room: room, used: 2, maps: []entries{{}}}
}

// based makes a ledger whose first version is another one than 0, by the lower layers alone, as P19.8 says it.
func based(t *testing.T, promise string, pages, width, room, from int, base entries) *rig {
	t.Helper()
	r := &rig{T: t, promise: promise, d: blank(t, pages), width: width, room: room, first: from, maps: []entries{base}}
	s := stored(t, r.d, width)
	var cs []api.Change
	for _, x := range base.list() {
		cs = append(cs, put(x.Key, string(x.Val)))
	}
	root, e := tree.Update(s, 0, cs)
	if e != api.OK {
		t.Fatal(e)
	}
	r.publish(s, 0, api.Record{Version: from, First: from, Root: root, Count: len(base), Sum: base.root(width)})
	r.used = s.Super().Mark
	r.open(room)
	return r
}

// stored lays an empty file onto a disk and makes a store over it, with which pages can be laid that no ledger lays.
func stored(t *testing.T, d *disk.Disk, width int) *store.Store {
	t.Helper()
	if e := file.Format(d, width); e != api.OK {
		t.Fatal(e)
	}
	return storeOf(t, d)
}

// storeOf makes a store over a disk.
func storeOf(t *testing.T, d *disk.Disk) *store.Store {
	t.Helper()
	f, e := file.Open(d)
	if e != api.OK {
		t.Fatal(e)
	}
	s, e := store.New(f, 4096)
	if e != api.OK {
		t.Fatal(e)
	}
	return s
}

// publish adds a record behind the head, and flushes what is staged.
func (r *rig) publish(s *store.Store, head int, record api.Record) {
	r.Helper()
	head, e := index.Add(s, head, record)
	if e != api.OK {
		r.Fatal(e)
	}
	if e := s.Flush(head); e != api.OK {
		r.Fatal(e)
	}
}

// fails tells what went wrong.
func (r *rig) fails(form string, args ...any) {
	r.Helper()
	r.Errorf("%s: %s", r.promise, fmt.Sprintf(form, args...))
}

// last tells the newest version.
func (r *rig) last() int { return r.first + len(r.maps) - 1 }

// open opens the rig's disk anew; it must be taken.
func (r *rig) open(room int) {
	r.Helper()
	l, err := ledger.Open(r.d, room)
	if err != nil {
		r.Fatalf("%s: Open: %v", r.promise, err)
	}
	r.l, r.room, r.dead = l, room, api.OK
}

// twin makes a ledger over another disk with the same image, which goes its own way.
func (r *rig) twin(room int) *rig {
	r.Helper()
	other := *r
	other.d, other.maps = loaded(r.T, r.d.Image()), slices.Clone(r.maps)
	other.open(room)
	return &other
}

// kill takes the power from the ledger, or makes it stale.
func (r *rig) kill(why api.Errno) *rig {
	switch r.dead = why; why {
	case api.ErrStale:
		r.d.Claim()
	case api.ErrDown:
		r.d.Arm(1)
		r.d.Sync()
	}
	return r
}

// commits commits a batch of changes.
func (r *rig) commits(cs ...api.Change) *rig {
	r.Helper()
	before, counts := r.maps[len(r.maps)-1], r.d.Counts()
	next := before.behind(cs)
	if v, err := r.l.Commit(raw(cs...)); v != r.last()+1 || err != nil {
		r.fails("Commit = %d, %v, want %d", v, err, r.last()+1)
		return r
	}
	r.maps = append(r.maps, next)
	pages := cost(before, next) + 1
	r.used += pages
	if now := r.d.Counts(); now.Writes-counts.Writes != pages+1 || now.Syncs-counts.Syncs != 2 {
		r.fails("P19.15: a Commit of %d pages: %+v, from %+v", pages, now, counts)
	}
	return r
}

// number tells the version that is meant, or why it is refused.
func (r *rig) number(version int) (int, api.Errno) {
	switch {
	case version == -1:
		return r.last(), api.OK
	case version < -1 || version > r.last():
		return 0, api.ErrVersion
	case version < r.first:
		return 0, api.ErrGone
	}
	return version, api.OK
}

// tells tells what the stream of some versions is to say.
func (r *rig) tells(from, to int) saga {
	return tell(r.width, from, r.maps[from-r.first:to-r.first+1]...)
}

// quiet asks that calls neither write nor sync nor claim, nor change the disk in any way.
func (r *rig) quiet(calls func()) {
	r.Helper()
	before := stateOf(r.d)
	calls()
	if now := stateOf(r.d); now != before {
		r.fails("the disk has changed: %+v, from %+v", now, before)
	}
}

// wanted tells what an Export is to answer: a stream, or a refusal and its place (P19.5), pages that do not stand left aside.
func (r *rig) wanted(from, to int) ([]byte, int, api.Errno) {
	if r.dead != api.OK {
		return nil, from, r.dead
	}
	a, e := r.number(from)
	if e != api.OK {
		return nil, from, e
	}
	b, e := r.number(to)
	if e != api.OK {
		return nil, to, e
	}
	if a > b {
		return nil, from, api.ErrRange
	}
	return r.tells(a, b).stream(), from, api.OK
}

// export asks of an Export what the chapter says, and tells the stream.
func (r *rig) export(from, to int) (stream []byte) {
	r.Helper()
	want, at, why := r.wanted(from, to)
	r.quiet(func() {
		r.Helper()
		got, err := ship.Export(r.l, from, to)
		if !bytes.Equal(got, want) || why != api.OK && got != nil || !isRefusal(err, "export", at, why) {
			r.fails("Export(%d, %d) = %d bytes, %v, want %d, %v at %d", from, to, len(got), err, len(want), why, at)
		}
		stream = got
	})
	return stream
}

// holds asks that the ledger is what it is to be: its bounds, and of each version the map and the root; and what is beside them.
func (r *rig) holds() {
	r.Helper()
	info, err := r.l.Info()
	want := api.Info{
		Width: r.width, First: r.first, Last: r.last(), Used: r.used, Pages: r.d.Pages(),
		Keys: len(r.maps[len(r.maps)-1]), Sum: r.maps[len(r.maps)-1].root(r.width),
	}
	if info != want || err != nil {
		r.fails("Info = %+v, %v, want %+v", info, err, want)
	}
	for i, m := range r.maps {
		r.version(r.first+i, m)
	}
	if _, err := r.l.Root(r.last() + 1); !isRefusal(err, "root", r.last()+1, api.ErrVersion) {
		r.fails("there is a version above the last: %v", err)
	}
	if _, err := r.l.Root(r.first - 1); r.first > 0 && !isRefusal(err, "root", r.first-1, api.ErrGone) {
		r.fails("there is a version below the first: %v", err)
	}
}

// version asks that a version is a map.
func (r *rig) version(v int, m entries) {
	r.Helper()
	want := m.list()
	list, more, err := r.l.Scan(low[:], high[:], v, 1000)
	if err != nil || more != (len(want) > 1000) || fmt.Sprint(list) != fmt.Sprint(want[:min(1000, len(want))]) {
		r.fails("version %d has %d entries, %v, want %d", v, len(list), err, len(want))
	}
	if sum, err := r.l.Root(v); sum != m.root(r.width) || err != nil {
		r.fails("the root of version %d is %x, %v, want %x", v, sum, err, m.root(r.width))
	}
}

// proves asks that a version of two ledgers has the same proofs for some keys.
func (r *rig) proves(other *rig, v int, keys ...api.Key) {
	r.Helper()
	for _, k := range keys {
		a, wrongA := r.l.Prove(k[:], v)
		b, wrongB := other.l.Prove(k[:], v)
		if wrongA != nil || wrongB != nil || !bytes.Equal(a, b) {
			r.fails("the proofs of %.4x at version %d differ: %x, %v; %x, %v", k, v, a, wrongA, b, wrongB)
		}
	}
	a, wrongA := r.l.Span(low[:], high[:], v)
	b, wrongB := other.l.Span(low[:], high[:], v)
	if wrongA != nil || wrongB != nil || !bytes.Equal(a, b) {
		r.fails("the spans of version %d differ: %x, %v; %x, %v", v, a, wrongA, b, wrongB)
	}
}

// imported makes a ledger of a stream that must be taken, and asks that it is what the stream says.
func imported(t *testing.T, promise string, pages, room int, stream []byte) *rig {
	t.Helper()
	return importedOn(t, promise, blank(t, pages), room, stream)
}

func importedOn(t *testing.T, promise string, d *disk.Disk, room int, stream []byte) *rig {
	t.Helper()
	s, right := hear(stream)
	if !right {
		t.Fatalf("%s: the stream is not right by its form", promise)
	}
	before := d.Counts()
	l, err := ship.Import(d, room, stream)
	if err != nil || l == nil {
		t.Fatalf("%s: Import: %v", promise, err)
	}
	r := &rig{T: t, promise: promise, d: d, l: l, width: s.width, room: room, first: s.from, used: s.need(), maps: s.maps()}
	writes, syncs := 2, 2
	for _, pages := range s.needs() {
		writes, syncs = writes+pages+1, syncs+2
	}
	if now := d.Counts(); now.Writes-before.Writes != writes || now.Syncs-before.Syncs != syncs || now.Open != 0 {
		r.fails("P19.8: %+v, from %+v, want %d writes and %d syncs", now, before, writes, syncs)
	}
	if tally := l.Tally(); tally.Clean > room || tally.Held != 0 {
		r.fails("the tally is %+v, the room %d", tally, room)
	}
	r.holds()
	return r
}

// importIs asks that an Import is refused, and has done nothing.
func importIs(t *testing.T, promise string, d *disk.Disk, room int, stream []byte, at int, why api.Errno) {
	t.Helper()
	var before state
	if d != nil {
		before = stateOf(d)
	}
	if l, err := ship.Import(d, room, stream); l != nil || !isRefusal(err, "import", at, why) {
		t.Errorf("%s: Import = %t, %v, want %v at %d", promise, l != nil, err, why, at)
	}
	if d != nil && stateOf(d) != before {
		t.Errorf("%s: a refused Import has changed the disk: %+v", promise, d.Counts())
	}
}

// peekIs asks that a Peek tells a head, or is refused.
func peekIs(t *testing.T, promise string, stream []byte, want ship.Head, why api.Errno) {
	t.Helper()
	if h, err := ship.Peek(stream); h != want || !isRefusal(err, "peek", -1, why) {
		t.Errorf("%s: Peek = %+v, %v, want %+v, %v", promise, h, err, want, why)
	}
}

// followIs asks that a Follow is refused ahead of all versions that it would make, and has done nothing.
func (r *rig) followIs(stream []byte, why api.Errno) {
	r.Helper()
	r.followAt(stream, -1, why)
}

// followAt asks that a Follow is refused at a version, and has done nothing.
func (r *rig) followAt(stream []byte, at int, why api.Errno) {
	r.Helper()
	r.quiet(func() {
		r.Helper()
		if n, err := ship.Follow(r.l, stream); n != 0 || !isRefusal(err, "follow", at, why) {
			r.fails("Follow = %d, %v, want %v at %d", n, err, why, at)
		}
	})
}

// follows asks that a Follow is taken up to its end; it has written what the commits of its versions write.
func (r *rig) follows(stream []byte) {
	r.Helper()
	r.stops(stream, 0, api.OK)
}

// stops asks that a Follow goes up to a version at which it is refused, or, of OK, to its end.
func (r *rig) stops(stream []byte, at int, why api.Errno) {
	r.Helper()
	s, right := hear(stream)
	if !right {
		r.Fatalf("%s: the stream is not right by its form", r.promise)
	}
	want, through := s.to, s.to
	if why != api.OK {
		want, through = 0, at-1
	}
	before, writes, syncs := r.d.Counts(), 0, 0
	said := s.maps()
	for v := r.last() + 1; v <= through; v++ {
		pages := cost(said[v-1-s.from], said[v-s.from]) + 1
		writes, syncs, r.used = writes+pages+1, syncs+2, r.used+pages
		r.maps = append(r.maps, said[v-s.from])
	}
	if n, err := ship.Follow(r.l, stream); n != want || !isRefusal(err, "follow", at, why) {
		r.fails("Follow = %d, %v, want %d, %v at %d", n, err, want, why, at)
	}
	if now := r.d.Counts(); now.Writes-before.Writes != writes || now.Syncs-before.Syncs != syncs || now.Open != 0 {
		r.fails("P19.11: Follow up to %d: %+v, from %+v, want %d writes and %d syncs", through, now, before, writes, syncs)
	}
	r.holds()
}

// drawnKey tells one of few keys, of which some part late.
func drawnKey(rnd *rand.Rand) api.Key {
	k := keyOf(fmt.Sprintf("%04b", rnd.Intn(16)))
	if rnd.Intn(4) == 0 {
		k = flipped(k, []int{4, 9, 20, 33, 60}[rnd.Intn(5)])
	}
	return k
}

// drawnBatch tells changes of unlike keys, in any order.
func drawnBatch(rnd *rand.Rand, most int) (cs []api.Change) {
	seen := map[api.Key]bool{}
	for range rnd.Intn(most + 1) {
		k := drawnKey(rnd)
		switch {
		case seen[k]:
		case rnd.Intn(3) == 0:
			cs = append(cs, del(k))
		default:
			cs = append(cs, put(k, text(rnd.Intn(20), []int{0, 1, 1, 7, 128}[rnd.Intn(5)])))
		}
		seen[k] = true
	}
	return cs
}

// history makes a ledger of some versions: keys come, are changed and go, some batches take no effect, and once the map is empty again.
func (r *rig) history() *rig {
	r.Helper()
	a, b := keyOf("0010"), keyOf("00101")
	r.commits(put(keyK, "a"))
	r.commits(put(keyQ, "b"), put(a, text(1, 128)))
	r.commits()
	r.commits(put(keyQ, "b"), del(high))
	r.commits(put(b, ""), del(keyK), put(keyQ, "b"))
	r.commits(del(keyQ), del(a), del(b))
	r.commits(put(keyK, "back"))
	return r.commits(put(high, "z"), put(low, "y"))
}

// layGeneration lays superblocks into an image that say the same as the one that holds, with other generations.
func layGeneration(t *testing.T, image []byte, newest int) {
	t.Helper()
	super, e := frame.Choose(image[:256], image[256:512])
	if e != api.OK {
		t.Fatal(e)
	}
	for _, g := range []int{newest - 1, newest} {
		super.Generation = g
		slot, e := frame.PackSuper(super)
		if e != api.OK {
			t.Fatal(e)
		}
		copy(image[256*(g%2):], slot)
	}
}
