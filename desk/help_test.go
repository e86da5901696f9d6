package desk_test

import (
	"bytes"
	"fmt"
	"math/rand"
	"reflect"
	"strings"
	"testing"

	"ledger/api"
	"ledger/batch"
	"ledger/desk"
	"ledger/disk"
	"ledger/ledger"
	"ledger/ship"
)

const (
	highest = int(^uint(0) >> 1)
	lowest  = -highest - 1
)

// The keys of the chapter's examples: q differs from k in bit 0 alone.
var (
	keyK = api.Key(bytes.Repeat([]byte{7}, 32))
	keyQ = flipped(keyK, 0)
	low  = api.Key{}
	high = api.Key(bytes.Repeat([]byte{255}, 32))
)

func put(k api.Key, val string) api.Change { return api.Change{Key: k, Val: []byte(val)} }

func del(k api.Key) api.Change { return api.Change{Key: k, Del: true} }

// raw tells the bytes of a batch.
func raw(cs ...api.Change) []byte {
	b, e := batch.Build(cs...)
	if e != api.OK {
		panic(e)
	}
	return b
}

// flipped tells a key with one bit turned.
func flipped(k api.Key, bit int) api.Key {
	k[bit/8] ^= 128 >> (bit % 8)
	return k
}

// text makes n bytes, others for another seed.
func text(seed, n int) string {
	b := make([]byte, n)
	for i := range b {
		b[i] = byte(seed*37 + i*i + i>>3 + 1)
	}
	return string(b)
}

// drawn tells a source of numbers that is the same each time.
func drawn(seed int) *rand.Rand { return rand.New(rand.NewSource(int64(seed))) }

// The frames of requests, by the plain reading.

func frame(r api.Request) []byte {
	b, right := plainFrame(r)
	if !right {
		panic(fmt.Sprintf("no request: %+v", r))
	}
	return b
}

func commit(cs ...api.Change) []byte { return frame(api.Request{Op: 1, Batch: raw(cs...)}) }

func get(k api.Key, v int) []byte { return frame(api.Request{Op: 2, Key: k[:], Version: v}) }

func root(v int) []byte { return frame(api.Request{Op: 3, Version: v}) }

func prove(k api.Key, v int) []byte { return frame(api.Request{Op: 4, Key: k[:], Version: v}) }

func span(lo, hi api.Key, v int) []byte {
	return frame(api.Request{Op: 5, Key: lo[:], High: hi[:], Version: v})
}

func scan(lo, hi api.Key, v, limit int) []byte {
	return frame(api.Request{Op: 6, Key: lo[:], High: hi[:], Version: v, Limit: limit})
}

func diff(v, w int) []byte { return frame(api.Request{Op: 7, Version: v, Other: w}) }

func info() []byte { return []byte{8} }

func stop() []byte { return []byte{9} }

// some tells the beginning of what is told of a value.
func some(v any) string {
	s := fmt.Sprint(v)
	return s[:min(len(s), 300)]
}

// err tells the reply that is a refusal.
func err(n int) []byte { return []byte{byte(n), byte(n >> 8)} }

// sameRequest tells whether two requests are the same, nil and empty lists taken as one.
func sameRequest(a, b api.Request) bool {
	for _, r := range []*api.Request{&a, &b} {
		for _, l := range []*[]byte{&r.Key, &r.High, &r.Batch} {
			*l = append([]byte(nil), *l...)
		}
	}
	return reflect.DeepEqual(a, b)
}

// sameReply tells whether two replies are the same, nil and empty lists taken as one.
func sameReply(a, b api.Reply) bool { return reflect.DeepEqual(settled(a), settled(b)) }

// settled tells a reply with nil for each empty list.
func settled(r api.Reply) api.Reply {
	r.Val, r.Raw = append([]byte(nil), r.Val...), append([]byte(nil), r.Raw...)
	r.List, r.Changes = append([]api.Entry(nil), r.List...), append([]api.Change(nil), r.Changes...)
	for i := range r.List {
		r.List[i].Val = append([]byte(nil), r.List[i].Val...)
	}
	for i := range r.Changes {
		r.Changes[i].Val = append([]byte(nil), r.Changes[i].Val...)
	}
	return r
}

// rig is a ledger on its disk, and the promise that is under test: whatever fails is told under its name.
type rig struct {
	*testing.T
	promise string
	d       *disk.Disk
	l       *ledger.Ledger
}

// begun makes a fresh ledger.
func begun(t *testing.T, promise string, pages, width, room int) *rig {
	t.Helper()
	d, e := disk.New(pages)
	if e != api.OK {
		t.Fatal(e)
	}
	l, wrong := ledger.Create(d, width, room)
	if wrong != nil {
		t.Fatal(wrong)
	}
	return &rig{t, promise, d, l}
}

// fails tells what went wrong.
func (r *rig) fails(form string, args ...any) {
	r.Helper()
	r.Errorf("%s: %s", r.promise, fmt.Sprintf(form, args...))
}

// commits commits a batch by the ledger's own call.
func (r *rig) commits(cs ...api.Change) *rig {
	r.Helper()
	if _, wrong := r.l.Commit(raw(cs...)); wrong != nil {
		r.Fatal(wrong)
	}
	return r
}

// history makes some versions: keys come, are changed and go, some batches take no effect, and once the map is empty again.
func (r *rig) history() *rig {
	r.Helper()
	a, b := api.Key{32}, api.Key{40}
	r.commits(put(keyK, "a"))
	r.commits(put(keyQ, "b"), put(a, text(1, 128)))
	r.commits()
	r.commits(put(keyQ, "b"), del(high))
	r.commits(put(b, ""), del(keyK), put(keyQ, "b"))
	r.commits(del(keyQ), del(a), del(b))
	r.commits(put(keyK, "back"))
	return r.commits(put(high, "z"), put(low, "y"), put(a, ""))
}

// thinned makes a ledger of the versions from one on alone, so that the earlier ones are gone.
func (r *rig) thinned(from, room int) *rig {
	r.Helper()
	stream, wrong := ship.Export(r.l, from, -1)
	if wrong != nil {
		r.Fatal(wrong)
	}
	d, _ := disk.New(r.d.Pages())
	l, wrong := ship.Import(d, room, stream)
	if wrong != nil {
		r.Fatal(wrong)
	}
	return &rig{r.T, r.promise, d, l}
}

// open opens the rig's disk anew.
func (r *rig) open(room int) {
	r.Helper()
	l, wrong := ledger.Open(r.d, room)
	if wrong != nil {
		r.Fatalf("%s: Open: %v", r.promise, wrong)
	}
	r.l = l
}

// twin makes a ledger over another disk with the same image, which goes its own way.
func (r *rig) twin(room int) *rig {
	r.Helper()
	d, e := disk.Load(r.d.Image())
	if e != api.OK {
		r.Fatal(e)
	}
	other := &rig{r.T, r.promise, d, nil}
	other.open(room)
	return other
}

// oneByOne tells the replies that the ledger's own calls make, one behind the other (P20.7).
func (r *rig) oneByOne(frames [][]byte) (replies [][]byte) {
	r.Helper()
	stopped := false
	for _, f := range frames {
		q, right := plainRequest(f)
		switch {
		case stopped:
			replies = append(replies, err(201))
		case !right:
			replies = append(replies, err(200))
		default:
			stopped = q.Op == 9
			b, right := plainBytes(q.Op, r.called(q))
			if !right {
				r.Fatalf("%s: the ledger's answer to %+v can't be laid down", r.promise, q)
			}
			replies = append(replies, b)
		}
	}
	return replies
}

// called tells what the ledger answers to a request.
func (r *rig) called(q api.Request) (p api.Reply) {
	var wrong error
	if q.Op == 1 {
		p.Version, wrong = r.l.Commit(q.Batch)
	}
	if q.Op == 2 {
		a, refused := r.l.Get(q.Key, q.Version)
		p.Found, p.Val, wrong = a.Found, a.Val, refused
	}
	if q.Op == 3 {
		p.Sum, wrong = r.l.Root(q.Version)
	}
	if q.Op == 4 {
		p.Raw, wrong = r.l.Prove(q.Key, q.Version)
	}
	if q.Op == 5 {
		p.Raw, wrong = r.l.Span(q.Key, q.High, q.Version)
	}
	if q.Op == 6 {
		p.List, p.More, wrong = r.l.Scan(q.Key, q.High, q.Version, q.Limit)
	}
	if q.Op == 7 {
		p.Changes, wrong = r.l.Diff(q.Version, q.Other)
	}
	if q.Op == 8 {
		p.Info, wrong = r.l.Info()
	}
	p.Err = ledger.Code(wrong)
	return p
}

// pair is two ledgers of which the same is asked: a desk serves the one, the other one's own calls say what is to come.
type pair struct {
	served, own *rig
}

// pair makes two twins, with unlike rooms.
func (r *rig) pair(room int) pair {
	r.Helper()
	return pair{r.twin(room), r.twin(room + 3)}
}

// both does the same to both.
func (p pair) both(do func(r *rig)) pair {
	do(p.served)
	do(p.own)
	return p
}

// serve lets a desk serve frames, and asks that the replies and what is behind them are those of the ledger's own calls.
func (p pair) serve(workers int, frames ...[]byte) [][]byte {
	p.served.Helper()
	want := p.own.oneByOne(frames)
	got := desk.Serve(p.served.l, frames, workers)
	p.served.repliesAre(workers, frames, got, want)
	p.alike()
	return got
}

// alike asks that both are in the same state.
func (p pair) alike() {
	r := p.served
	r.Helper()
	if a, b := stateOf(p.served), stateOf(p.own); a != b {
		r.fails("the ledger is another one behind it: %s, want %s", a.tell(), b.tell())
	}
}

// repliesAre asks for the very replies.
func (r *rig) repliesAre(workers int, frames, got, want [][]byte) {
	r.Helper()
	if len(got) != len(want) {
		r.fails("%d workers: %d replies to %d frames", workers, len(got), len(frames))
		return
	}
	for i := range want {
		if !bytes.Equal(got[i], want[i]) {
			r.fails("%d workers: the reply to frame %d of %d, %s, is %s, want %s", workers, i, len(frames), some(frames[i]), some(got[i]), some(want[i]))
			return
		}
	}
}

// state is all that can be asked of a disk and its ledger, but for the reads and the cache.
type state struct {
	writes, syncs, open, epoch int
	power                      bool
	image, live                string
	info                       api.Info
}

func stateOf(r *rig) state {
	c := r.d.Counts()
	s := state{writes: c.Writes, syncs: c.Syncs, open: c.Open, epoch: r.d.Epoch(), power: r.d.Power(), image: string(r.d.Image())}
	if wrong := r.l.Live(); wrong != nil {
		s.live = wrong.Error()
	}
	s.info, _ = r.l.Info()
	return s
}

func (s state) tell() string {
	s.image = fmt.Sprint(len(strings.TrimRight(s.image, "\x00")), " bytes")
	return fmt.Sprintf("%+v", s)
}

// everyRequest tells a request of each kind but commit and stop, at a version, in many forms.
func everyRequest(v int) [][]byte {
	frames := [][]byte{info(), root(v), span(low, high, v), span(keyK, keyK, v), span(high, low, v), diff(v, -1), diff(-1, v), diff(0, v), diff(v, v-1)}
	for _, k := range []api.Key{low, keyK, keyQ, high, {32}, {40}, {99}} {
		frames = append(frames, get(k, v), prove(k, v), scan(low, k, v, 1000), scan(k, high, v, 1), scan(keyK, k, v, 0), span(keyK, k, v))
	}
	for _, limit := range []int{2, 999, 1000, 1001, 1<<32 - 1} {
		frames = append(frames, scan(low, high, v, limit))
	}
	return frames
}

// noFrames tells bytes that are no request.
func noFrames() [][]byte {
	long := make([]byte, 12001)
	long[0] = 1
	return [][]byte{nil, {}, {0}, {10}, {255}, {8, 8}, {9, 9}, {2}, {3, 1, 2, 3, 4, 5, 6, 7}, get(keyK, 0)[:40], append(get(keyK, 0), 0), long}
}

// badBatches tells commits that the ledger refuses.
func badBatches() [][]byte {
	many := append([]byte{1, 65, 0}, bytes.Repeat(append([]byte{2}, keyK[:]...), 65)...)
	long := append(append([]byte{1, 1, 0, 1}, keyK[:]...), 129, 0)
	twice := append(append([]byte{1, 2, 0, 2}, keyK[:]...), append([]byte{2}, keyK[:]...)...)
	return [][]byte{{1}, {1, 0}, {1, 0, 0, 0}, many, long, twice, append([]byte{1}, make([]byte, 11999)...)}
}

// drawnKey tells one of few keys.
func drawnKey(rnd *rand.Rand) api.Key {
	keys := []api.Key{low, keyK, keyQ, high, {32}, {40}, {64}, {96}, {160}, {128, 1}}
	return keys[rnd.Intn(len(keys))]
}

// drawnBatch tells changes of unlike keys.
func drawnBatch(rnd *rand.Rand) (cs []api.Change) {
	seen := map[api.Key]bool{}
	for range rnd.Intn(4) {
		k := drawnKey(rnd)
		if seen[k] {
			continue
		}
		seen[k] = true
		if rnd.Intn(3) == 0 {
			cs = append(cs, del(k))
		} else {
			cs = append(cs, put(k, text(rnd.Intn(20), []int{0, 1, 7, 128}[rnd.Intn(4)])))
		}
	}
	return cs
}

// drawnFrame tells a frame of any kind but stop; the versions are about those that there are.
func drawnFrame(rnd *rand.Rand, last int) []byte {
	v, w := rnd.Intn(last+4)-2, rnd.Intn(last+4)-2
	k, m := drawnKey(rnd), drawnKey(rnd)
	switch rnd.Intn(12) {
	case 0:
		return commit(drawnBatch(rnd)...)
	case 1, 2:
		return get(k, v)
	case 3:
		return get(k, -1)
	case 4:
		return root(v)
	case 5:
		return prove(k, v)
	case 6:
		return span(k, m, v)
	case 7:
		return scan(k, m, v, rnd.Intn(5))
	case 8:
		return diff(v, w)
	case 9, 10:
		return info()
	}
	odd := append(noFrames(), badBatches()...)
	return odd[rnd.Intn(len(odd))]
}
