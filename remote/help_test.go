package remote_test

import (
	"bytes"
	"fmt"
	"math/rand"
	"slices"
	"testing"

	"ledger/api"
	"ledger/remote"
)

const (
	highest = int(^uint(0) >> 1)
	lowest  = -highest - 1
	last    = 1 << 30 // the highest version
)

// The keys of the chapter's examples (q differs from k in bit 0 alone), and both ends.
var (
	keyK = api.Key(bytes.Repeat([]byte{7}, 32))
	keyQ = flipped(keyK, 0)
	low  = api.Key{}
	high = api.Key(bytes.Repeat([]byte{255}, 32))
)

func put(k api.Key, val string) api.Change { return api.Change{Key: k, Val: []byte(val)} }

func del(k api.Key) api.Change { return api.Change{Key: k, Del: true} }

// flipped tells a key with one bit turned.
func flipped(k api.Key, bit int) api.Key {
	k[bit/8] ^= 128 >> (bit % 8)
	return k
}

// text makes n bytes, others for another seed.
func text(seed, n int) string {
	b := make([]byte, n)
	for i := range b {
		b[i] = byte(seed*37 + i*i + i>>3 + 1)
	}
	return string(b)
}

// drawn tells a source of numbers that is the same each time.
func drawn(seed int) *rand.Rand { return rand.New(rand.NewSource(int64(seed))) }

// some tells the beginning of what is told of a value.
func some(v any) string {
	s := fmt.Sprint(v)
	return s[:min(len(s), 300)]
}

// someMap tells a map whose keys part high and low.
func someMap() entries {
	return entries{
		keyK: "a", keyQ: "bc", flipped(keyK, 3): "", flipped(keyK, 40): text(1, 128),
		flipped(keyK, 254): "d", low: "low", high: "z",
	}
}

// keysAbout tells the keys of a map, and some beside them.
func (m entries) keysAbout() (keys []api.Key) {
	for _, k := range append(m.rising(), keyK, api.Key{99}) {
		keys = append(keys, k, flipped(k, 255), flipped(k, 0), flipped(k, 100))
	}
	return keys
}

// sameAnswer tells whether two answers are one; nil and empty values mean the same.
func sameAnswer(a, b api.Answer) bool { return a.Found == b.Found && bytes.Equal(a.Val, b.Val) }

// sameEntries tells whether two lists show the same.
func sameEntries(a, b []api.Entry) bool {
	return slices.EqualFunc(a, b, func(x, y api.Entry) bool { return x.Key == y.Key && bytes.Equal(x.Val, y.Val) })
}

// sameBytes tells whether two lists of bytes are one.
func sameBytes(a, b [][]byte) bool { return slices.EqualFunc(a, b, bytes.Equal) }

// lent is memory that is handed in: it must come back as it was, with the room behind it, and is then written over, so that what is kept is seen.
type lent struct {
	wholes, were [][]byte
	lists        []func() bool
	spoil        []func()
}

// bytes lends one list.
func (l *lent) bytes(b []byte) []byte {
	if b == nil {
		return nil
	}
	whole := append(bytes.Clone(b), 201, 202, 203, 204, 205, 206, 207, 208, 209)
	l.wholes, l.were = append(l.wholes, whole), append(l.were, bytes.Clone(whole))
	return whole[:len(b)]
}

// replies lends a list of lists.
func (l *lent) replies(rs [][]byte) [][]byte {
	if rs == nil {
		return nil
	}
	behind := []byte{77}
	whole := make([][]byte, 0, len(rs)+1)
	for _, r := range rs {
		whole = append(whole, l.bytes(r))
	}
	whole = append(whole, behind)
	was := slices.Clone(whole)
	l.lists = append(l.lists, func() bool {
		return slices.EqualFunc(whole, was, func(a, b []byte) bool {
			return len(a) == len(b) && (a == nil) == (b == nil) && (len(a) == 0 || &a[0] == &b[0])
		})
	})
	l.spoil = append(l.spoil, func() { clear(whole) })
	return whole[:len(rs)]
}

// changes lends a list of changes.
func (l *lent) changes(cs []api.Change) []api.Change {
	if cs == nil {
		return nil
	}
	whole := make([]api.Change, 0, len(cs)+1)
	for _, c := range cs {
		whole = append(whole, api.Change{Key: c.Key, Del: c.Del, Val: l.bytes(c.Val)})
	}
	whole = append(whole, put(high, "behind"))
	was := slices.Clone(whole)
	l.lists = append(l.lists, func() bool {
		return slices.EqualFunc(whole, was, func(a, b api.Change) bool {
			return a.Key == b.Key && a.Del == b.Del && (a.Val == nil) == (b.Val == nil) && bytes.Equal(a.Val, b.Val)
		})
	})
	l.spoil = append(l.spoil, func() { clear(whole) })
	return whole[:len(cs)]
}

// back tells whether all is as it was, and writes over it.
func (l *lent) back() bool {
	left := sameBytes(l.wholes, l.were)
	for _, is := range l.lists {
		left = is() && left
	}
	for _, whole := range l.wholes {
		scribble(whole)
	}
	for _, spoil := range l.spoil {
		spoil()
	}
	return left
}

// scribble writes over all bytes of b and of the room behind it.
func scribble(b []byte) {
	b = b[:cap(b)]
	for i := range b {
		b[i] ^= 0xFF
	}
}

// couple is a session and the plain reading of it: each call is made of both, and they must answer the same and have the same head behind it. The promise is the one under test: whatever fails is told under its name.
type couple struct {
	*testing.T
	promise string
	s       *remote.Session
	p       *plain
}

// begun begins a session, and its plain reading.
func begun(t *testing.T, promise string, width, version int, root api.Digest) *couple {
	t.Helper()
	s, e := remote.New(width, version, root)
	if s == nil || e != api.OK {
		t.Fatalf("P21.1: New(%d, %d, %x): %v", width, version, root, e)
	}
	c := &couple{t, promise, s, &plain{width, version, root}}
	c.headStands("New")
	return c
}

// over begins a session at a map's root.
func over(t *testing.T, promise string, width, version int, m entries) *couple {
	t.Helper()
	return begun(t, promise, width, version, m.root(width))
}

// as goes on under another promise.
func (c *couple) as(promise string) *couple {
	return &couple{c.T, promise, c.s, c.p}
}

// fails tells what went wrong.
func (c *couple) fails(form string, args ...any) {
	c.Helper()
	c.Errorf("%s: %s", c.promise, fmt.Sprintf(form, args...))
}

// headStands asks that the head is that of the plain reading.
func (c *couple) headStands(behind string) {
	c.Helper()
	if v, root := c.s.Head(); v != c.p.v || root != c.p.root {
		c.Fatalf("%s, P21.2: the head behind %s is %d %x, want %d %x", c.promise, behind, v, root, c.p.v, c.p.root)
	}
}

// headIs asks for a head.
func (c *couple) headIs(version int, root api.Digest) {
	c.Helper()
	if v, r := c.s.Head(); v != version || r != root {
		c.fails("P21.2: the head is %d %x, want %d %x", v, r, version, root)
	}
}

// settled asks, behind a call, for its refusal, for the head, and that what was lent is as it was.
func (c *couple) settled(call string, l *lent, got, want api.Errno) {
	c.Helper()
	if got != want {
		c.fails("%s is answered %d (%v), want %d (%v)", call, got, got, want, want)
	}
	if !l.back() {
		c.fails("R5: %s has changed what it was handed", call)
	}
	c.headStands(call)
}

func (c *couple) askGet(k api.Key) []byte {
	c.Helper()
	got := c.s.AskGet(k)
	if want := proveFrame(k, c.p.v); !bytes.Equal(got, want) {
		c.fails("AskGet(%x): %v, want %v", k, got, want)
	}
	c.headStands("AskGet")
	return got
}

func (c *couple) takeGet(k api.Key, reply []byte) (api.Answer, api.Errno) {
	c.Helper()
	want, wrong := c.p.takeGet(k, reply)
	var l lent
	got, e := c.s.TakeGet(k, l.bytes(reply))
	c.settled(fmt.Sprintf("TakeGet(%x, %s)", k[:4], some(reply)), &l, e, wrong)
	if !sameAnswer(got, want) || e != api.OK && got.Val != nil && len(got.Val) > 0 {
		c.fails("TakeGet(%x, %s): %v, want %v", k[:4], some(reply), got, want)
	}
	return got, e
}

func (c *couple) askSpan(lo, hi api.Key) ([]byte, api.Errno) {
	c.Helper()
	want, wrong := c.p.askSpan(lo, hi)
	got, e := c.s.AskSpan(lo, hi)
	c.settled("AskSpan", &lent{}, e, wrong)
	if !bytes.Equal(got, want) {
		c.fails("AskSpan(%x, %x): %v, want %v", lo, hi, got, want)
	}
	return got, e
}

func (c *couple) takeSpan(lo, hi api.Key, reply []byte) ([]api.Entry, api.Errno) {
	c.Helper()
	want, wrong := c.p.takeSpan(lo, hi, reply)
	var l lent
	got, e := c.s.TakeSpan(lo, hi, l.bytes(reply))
	c.settled(fmt.Sprintf("TakeSpan(%x, %x, %s)", lo[:4], hi[:4], some(reply)), &l, e, wrong)
	if !sameEntries(got, want) {
		c.fails("TakeSpan(%x, %x, %s): %s, want %s", lo[:4], hi[:4], some(reply), some(got), some(want))
	}
	return got, e
}

func (c *couple) askChange(cs ...api.Change) ([][]byte, api.Errno) {
	c.Helper()
	want, wrong := c.p.askChange(cs)
	var l lent
	got, e := c.s.AskChange(l.changes(cs))
	c.settled(fmt.Sprintf("AskChange of %d", len(cs)), &l, e, wrong)
	if !sameBytes(got, want) {
		c.fails("AskChange(%s): %s, want %s", some(cs), some(got), some(want))
	}
	return got, e
}

func (c *couple) takeChange(cs []api.Change, replies ...[]byte) (int, api.Errno) {
	c.Helper()
	want, wrong := c.p.takeChange(cs, replies)
	var l lent
	got, e := c.s.TakeChange(l.changes(cs), l.replies(replies))
	c.settled(fmt.Sprintf("TakeChange of %d with %d replies", len(cs), len(replies)), &l, e, wrong)
	if got != want {
		c.fails("TakeChange(%s): %d, want %d", some(cs), got, want)
	}
	return got, e
}

func (c *couple) askMoves(to int) ([]byte, api.Errno) {
	c.Helper()
	want, wrong := c.p.askMoves(to)
	got, e := c.s.AskMoves(to)
	c.settled(fmt.Sprintf("AskMoves(%d)", to), &lent{}, e, wrong)
	if !bytes.Equal(got, want) {
		c.fails("AskMoves(%d): %v, want %v", to, got, want)
	}
	return got, e
}

func (c *couple) askFollow(to int, moves []byte) ([][]byte, api.Errno) {
	c.Helper()
	want, wrong := c.p.askFollow(to, moves)
	var l lent
	got, e := c.s.AskFollow(to, l.bytes(moves))
	c.settled(fmt.Sprintf("AskFollow(%d, %s)", to, some(moves)), &l, e, wrong)
	if !sameBytes(got, want) {
		c.fails("AskFollow(%d, %s): %s, want %s", to, some(moves), some(got), some(want))
	}
	return got, e
}

func (c *couple) takeFollow(to int, moves []byte, replies ...[]byte) (int, api.Errno) {
	c.Helper()
	want, wrong := c.p.takeFollow(to, moves, replies)
	var l lent
	got, e := c.s.TakeFollow(to, l.bytes(moves), l.replies(replies))
	c.settled(fmt.Sprintf("TakeFollow(%d, %s) with %d replies", to, some(moves), len(replies)), &l, e, wrong)
	if got != want {
		c.fails("TakeFollow(%d, %s): %d, want %d", to, some(moves), got, want)
	}
	return got, e
}

// is asks for a refusal that is written out.
func (c *couple) is(what string, got, want api.Errno) {
	c.Helper()
	if got != want {
		c.fails("%s: %d (%v), want %d (%v)", what, got, got, want, want)
	}
}

// proofReplies tells the replies to prove out of a map.
func (m entries) proofReplies(w int, cs ...api.Change) (replies [][]byte) {
	for _, raw := range m.proofs(w, cs...) {
		replies = append(replies, proofReply(raw))
	}
	return replies
}

// changeReplies tells the right replies to a change behind version v.
func (m entries) changeReplies(w, v int, cs ...api.Change) [][]byte {
	sorted := slices.Clone(cs)
	slices.SortFunc(sorted, func(a, b api.Change) int { return bytes.Compare(a.Key[:], b.Key[:]) })
	return append(m.proofReplies(w, sorted...), commitReply(v+1))
}

// followReplies tells the right replies to moves that lead from a map to another one.
func (m entries) followReplies(w int, to entries) [][]byte {
	return append(m.proofReplies(w, m.to(to)...), rootReply(to.root(w)))
}

// with tells the list with another element at a place.
func with(list [][]byte, at int, b []byte) [][]byte {
	list = slices.Clone(list)
	list[at] = b
	return list
}

// spoilt tells replies that come from another one: cut at every byte, with bytes more, with each byte changed in these bits.
func spoilt(reply []byte, bits ...byte) (all [][]byte) {
	for n := range reply {
		all = append(all, reply[:n])
		for _, x := range bits {
			other := bytes.Clone(reply)
			other[n] ^= x
			all = append(all, other)
		}
	}
	return append(all, slices.Concat(reply, []byte{0}), slices.Concat(reply, reply), slices.Concat(reply, make([]byte, 32)), slices.Concat([]byte{0}, reply))
}

// refusals tells replies that are refusals, or nearly.
func refusals() (all [][]byte) {
	for _, n := range []int{1, 2, 4, 5, 151, 152, 200, 201, 255, 256, 65535} {
		all = append(all, refusal(n), append(refusal(n), 0), append(refusal(n), make([]byte, 8)...), append(refusal(n), make([]byte, 33)...))
	}
	return append(all, nil, []byte{}, []byte{0}, []byte{5}, []byte{0, 0}, []byte{0, 0, 0}, make([]byte, 10), make([]byte, 35))
}

// otherKinds tells right replies to all kinds of requests.
func otherKinds() [][]byte {
	m := someMap()
	return [][]byte{
		commitReply(0), commitReply(1), commitReply(-1), {0, 0, 0}, {0, 0, 1, 1, 0, 'a'}, rootReply(m.root(4)), rootReply(api.Digest{}),
		proofReply(m.proof(4, keyK)), proofReply(m.span(4, low, high)), {0, 0, 0, 0, 0, 0, 0}, diffReply(), diffReply(put(keyK, "a")), diffReply(del(keyK), put(keyQ, "")),
		append([]byte{0, 0, 4}, make([]byte, 60)...), {0, 0},
	}
}

// drawnKey tells one of few keys.
func drawnKey(rnd *rand.Rand) api.Key {
	keys := []api.Key{low, keyK, keyQ, high, {32}, {40}, {64}, {96}, {160}, {128, 1}, flipped(keyK, 12), flipped(keyQ, 30)}
	return keys[rnd.Intn(len(keys))]
}

// drawnBatch tells changes of unlike keys.
func drawnBatch(rnd *rand.Rand) (cs []api.Change) {
	seen := map[api.Key]bool{}
	for range rnd.Intn(5) {
		k := drawnKey(rnd)
		if seen[k] {
			continue
		}
		seen[k] = true
		if rnd.Intn(3) == 0 {
			cs = append(cs, del(k))
		} else {
			cs = append(cs, put(k, text(rnd.Intn(4), []int{0, 1, 7, 128}[rnd.Intn(4)])))
		}
	}
	return cs
}
