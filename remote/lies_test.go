package remote_test

import (
	"bytes"
	"fmt"
	"math/rand"
	"slices"
	"testing"

	"ledger/api"
	"ledger/client"
	"ledger/span"
)

// collide asks for two unlike texts with one digest.
func (c *couple) collide(x, y []byte, found bool) {
	c.Helper()
	if !found || bytes.Equal(x, y) || cutSum(c.p.w, x) != cutSum(c.p.w, y) {
		c.fails("no two unlike texts with one digest: %v, %v, %v", x, y, found)
	}
}

// lie is a session over a map, and how often what the map does not say was taken.
type lie struct {
	*couple
	m     entries
	fresh func() *couple
	taken int
}

// told begins a session over a map to which lies are told.
func told(t *testing.T, promise string, w, v int, m entries) *lie {
	t.Helper()
	root := m.root(w)
	fresh := func() *couple { return begun(t, promise, w, v, root) }
	return &lie{couple: fresh(), m: m, fresh: fresh}
}

// get hands a reply to TakeGet: what is taken is the map's, or gives texts that collide.
func (l *lie) get(k api.Key, reply []byte) {
	l.Helper()
	a, e := l.takeGet(k, reply)
	if e != api.OK || sameAnswer(a, l.m.answer(k)) {
		return
	}
	l.taken++
	l.collide(client.Extract(l.p.w, l.p.root, k, reply[2:], l.m.proof(l.p.w, k)))
}

// span hands a reply to TakeSpan.
func (l *lie) span(lo, hi api.Key, reply []byte) {
	l.Helper()
	list, e := l.takeSpan(lo, hi, reply)
	if e != api.OK || sameEntries(list, l.m.between(lo, hi)) {
		return
	}
	l.taken++
	l.collide(span.Clash(l.p.w, l.p.root, lo, hi, reply[2:], l.m.span(l.p.w, lo, hi)))
}

// moved asks, behind a TakeChange or TakeFollow that was taken, for the root of the map with the changes, or for a proof that is not the map's and gives texts that collide; then a new session begins.
func (l *lie) moved(root api.Digest, cs []api.Change, replies [][]byte) {
	l.Helper()
	_, now := l.s.Head()
	w := l.p.w
	if now != l.m.behind(cs...).root(w) {
		l.taken++
		sorted := slices.Clone(cs)
		slices.SortFunc(sorted, func(a, b api.Change) int { return bytes.Compare(a.Key[:], b.Key[:]) })
		forged := 0
		for i, c := range sorted {
			if !bytes.Equal(replies[i][2:], l.m.proof(w, c.Key)) {
				forged++
				l.collide(client.Extract(w, root, c.Key, replies[i][2:], l.m.proof(w, c.Key)))
			}
		}
		if forged == 0 {
			l.fails("with the map's own proofs the root is another one than that of the map with the changes")
		}
	}
	l.couple = l.fresh()
}

// change hands replies to TakeChange.
func (l *lie) change(cs []api.Change, replies ...[]byte) {
	l.Helper()
	_, root := l.s.Head()
	if _, e := l.takeChange(cs, replies...); e == api.OK {
		l.moved(root, cs, replies)
	}
}

// follow hands moves and replies to TakeFollow.
func (l *lie) follow(to int, moves []byte, replies ...[]byte) {
	l.Helper()
	_, root := l.s.Head()
	if _, e := l.takeFollow(to, moves, replies...); e == api.OK {
		cs, _ := readMoves(moves)
		l.moved(root, cs, replies)
	}
}

// forged seeks a proof that holds under the map's root for a key and says something else.
func (m entries) forged(t *testing.T, w int, k api.Key, seed int) []byte {
	t.Helper()
	x, e := readForm(w, k, m.proof(w, k))
	if e != api.OK {
		t.Fatal(e)
	}
	root := m.root(w)
	if x.answer.Found && seed%2 == 0 { // that nothing is there, with another neighbour beside it
		for n := range 1 << 16 {
			y := x
			y.answer = api.Answer{}
			y.beside[n%256] = cutSum(w, []byte{3, byte(n), byte(n >> 8), byte(seed)})
			if y.root() == root {
				return y.raw()
			}
		}
	}
	for n := range 1 << 16 {
		y := x
		y.answer = api.Answer{Found: true, Val: fmt.Appendf(nil, "a lie, %d, %d", seed, n)}
		if y.root() == root {
			return y.raw()
		}
	}
	t.Fatalf("width %d: no forged proof was found", w)
	return nil
}

// P21.13: at a small width forged proofs are taken, and each gives, with the map's own, two unlike texts with one digest.
func TestForgedGets(t *testing.T) {
	t.Parallel()
	for _, w := range []int{1, 2} {
		for _, m := range []entries{{}, {keyK: "a"}, someMap()} {
			l := told(t, fmt.Sprint("P21.13: width ", w), w, 4, m)
			for i, k := range m.keysAbout() {
				for seed := range 2 {
					if w == 2 && (i%7 > 0 || seed > 0) {
						continue
					}
					l.get(k, proofReply(m.forged(t, w, k, i+seed)))
				}
			}
			if l.taken == 0 {
				l.fails("no forged proof was taken")
			}
			l.headIs(4, m.root(w))
		}
	}
}

// P21.13: of forged spans at a small width each gives, with the map's own, two unlike texts with one digest.
func TestForgedSpans(t *testing.T) {
	t.Parallel()
	m := entries{keyK: "a", keyQ: "bc", high: "z", api.Key{32}: ""}
	l := told(t, "P21.13", 1, 4, m)
	for _, s := range [][2]api.Key{{low, high}, {keyK, keyK}, {keyK, keyQ}, {{99}, {99}}, {high, high}, {low, {6}}} {
		for n := range 300 {
			// Another value, a key more, a key less.
			other := []entries{m.behind(put(keyK, text(n, 3))), m.behind(put(api.Key{99}, text(n, 2))), m.behind(del(keyQ), put(api.Key{32}, text(n, 2)))}[n%3]
			l.span(s[0], s[1], proofReply(other.span(1, s[0], s[1])))
		}
		l.span(s[0], s[1], []byte{0, 0, 0})
	}
	if l.taken < 5 {
		l.fails("%d forged spans were taken", l.taken)
	}
	l.headIs(4, m.root(1))
}

// P21.13: a TakeChange that takes forged proofs at a small width may end with another root than that of the map with the changes; then one of the proofs gives the texts.
func TestForgedChanges(t *testing.T) {
	t.Parallel()
	m := someMap()
	for _, w := range []int{1, 2} {
		l := told(t, fmt.Sprint("P21.13: width ", w), w, 4, m)
		for n, cs := range [][]api.Change{{put(keyK, "b")}, {del(keyK)}, {put(keyQ, "x"), del(keyK)}, {put(api.Key{99}, "new")}, {del(high), put(low, ""), put(keyK, "c")}} {
			right := m.changeReplies(w, 4, cs...)
			sorted, _ := l.p.sorted(cs)
			for at, x := range sorted {
				for seed := range 16 / (w * w * w) {
					l.change(cs, with(right, at, proofReply(m.forged(t, w, x.Key, n+at+2*seed)))...)
				}
			}
		}
	}
	// A forged neighbour gives another root for certain, where the change's own digest does not hide it.
	l := told(t, "P21.13", 1, 4, entries{})
	for n := range 4000 {
		x := saying{w: 1, key: keyK}
		for h := range 256 {
			x.beside[h] = empties[1][h]
		}
		x.beside[250+n%6] = cutSum(1, []byte{9, byte(n), byte(n >> 8)})
		x.beside[240+n%10] = cutSum(1, []byte{8, byte(n), byte(n >> 8)})
		if x.root() == l.p.root {
			l.change([]api.Change{put(keyK, text(n, 3))}, proofReply(x.raw()), commitReply(5))
		}
	}
	if l.taken == 0 {
		l.fails("no forged proof led to another root")
	}
}

// P21.13: so a TakeFollow.
func TestForgedFollows(t *testing.T) {
	t.Parallel()
	m := entries{keyK: "a", keyQ: "bc"}
	l := told(t, "P21.13", 1, 4, m)
	held := 0
	for n := range 6000 {
		cs := []api.Change{put(keyK, text(n, 3)), put(keyQ, text(n, 2))}
		x, _ := readForm(1, keyK, m.proof(1, keyK))
		x.beside[200+n%56] = cutSum(1, []byte{9, byte(n), byte(n >> 8)})
		if x.root() != l.p.root {
			continue
		}
		held++
		y, _ := readForm(1, keyQ, m.proof(1, keyQ))
		root := l.p.next(256, cs, []saying{x, y})
		l.follow(9, diffReply(cs...), proofReply(x.raw()), proofReply(y.raw()), rootReply(root))
		l.follow(9, diffReply(cs...), proofReply(x.raw()), proofReply(y.raw()), rootReply(flippedSum(root, 3)))
		l.follow(9, diffReply(cs[0]), proofReply(x.raw()), rootReply(l.p.next(256, cs[:1], []saying{x})))
	}
	if l.taken == 0 || held == 0 {
		l.fails("%d forged proofs held, %d led to another root", held, l.taken)
	}
}

// P21.13: moves that were never made are followed, if their proofs hold and take effect: the new root is that of the map with them.
func TestLyingMoves(t *testing.T) {
	m := someMap()
	for _, w := range []int{1, 4, 32} {
		for _, cs := range batches() {
			n := m.behind(cs...)
			moves := m.to(n)
			if w != 4 && len(moves) > 20 {
				continue
			}
			l := told(t, fmt.Sprint("P21.13: width ", w), w, 4, m)
			l.follow(4000, diffReply(moves...), m.followReplies(w, n)...)
			l.follow(4000, diffReply(moves...), append(m.proofReplies(w, moves...), rootReply(m.root(w)))...)
			if l.taken > 0 {
				l.fails("with true proofs the root is another one")
			}
		}
	}
}

// drawnLie tells a reply that comes from a true one, or from anywhere.
func drawnLie(rnd *rand.Rand, l *lie, k api.Key) []byte {
	w := l.p.w
	switch rnd.Intn(8) {
	case 0:
		b := make([]byte, rnd.Intn(80))
		rnd.Read(b)
		return proofReply(b)
	case 1:
		all := append(otherKinds(), refusals()...)
		return all[rnd.Intn(len(all))]
	case 2:
		return proofReply(l.m.behind(drawnBatch(rnd)...).proof(w, k))
	case 3:
		return proofReply(l.m.proof(w, drawnKey(rnd)))
	case 4, 5:
		x, _ := readForm(w, k, l.m.proof(w, k))
		x.answer = api.Answer{Found: true, Val: []byte(text(rnd.Intn(1000), 3))}
		return proofReply(x.raw())
	case 6:
		x, _ := readForm(w, k, l.m.proof(w, k))
		x.beside[rnd.Intn(256)] = cutSum(w, []byte{byte(rnd.Intn(256)), 7})
		return proofReply(x.raw())
	}
	b := bytes.Clone(proofReply(l.m.proof(w, k)))
	b[rnd.Intn(len(b))] ^= byte(1 << rnd.Intn(8))
	return b
}

// W9, P21.13: a desk that lies where it likes: whatever is taken is the map's, or there are two unlike texts with one digest.
func TestDrawnLies(t *testing.T) {
	t.Parallel()
	for _, w := range []int{1, 2, 32} {
		rnd := drawn(300 + w)
		taken := 0
		for round := range 6 {
			m := entries{}
			for range 2 * round {
				m = m.behind(drawnBatch(rnd)...)
			}
			l := told(t, fmt.Sprint("W9, P21.13: width ", w), w, 4, m)
			for range 40 {
				k, hi := drawnKey(rnd), drawnKey(rnd)
				l.get(k, drawnLie(rnd, l, k))
				l.span(k, hi, drawnLie(rnd, l, k))
				l.span(k, hi, proofReply(m.behind(drawnBatch(rnd)...).span(w, k, hi)))
				cs := drawnBatch(rnd)
				right := m.changeReplies(w, 4, cs...)
				at := rnd.Intn(len(right))
				l.change(cs, with(right, at, drawnLie(rnd, l, k))...)
				if sorted, _ := l.p.sorted(cs); len(sorted) > 0 {
					at := rnd.Intn(len(sorted))
					reply := drawnLie(rnd, l, sorted[at].Key)
					l.change(cs, with(right, at, reply)...)
					replies := with(append(m.proofReplies(w, sorted...), nil), at, reply)
					if said, e := l.p.shown(sorted, replies, true); e == api.OK {
						replies[len(sorted)] = rootReply(l.p.next(256, sorted, said))
					}
					l.follow(9, diffReply(sorted...), replies...)
				}
			}
			taken += l.taken
		}
		if w == 1 && taken == 0 || w == 32 && taken > 0 {
			t.Errorf("P21.13: width %d: %d lies were taken", w, taken)
		}
	}
}

// P21.14: no call panics and each ends, whatever the bytes, the numbers and the lists are.
func TestAnyBytes(t *testing.T) {
	t.Parallel()
	rnd := drawn(8)
	m := someMap()
	for range 400 {
		w := []int{1, 2, 4, 32}[rnd.Intn(4)]
		c := over(t, "P21.14", w, []int{0, 1, 77, last - 1, last}[rnd.Intn(5)], m)
		any := func() []byte {
			b := make([]byte, []int{0, 1, 2, 3, 10, 34, 35, 36, 100, 9000}[rnd.Intn(10)])
			rnd.Read(b)
			for i := range min(len(b), rnd.Intn(8)) {
				b[i] = byte(rnd.Intn(4) * rnd.Intn(2))
			}
			return b
		}
		rows := func() (all [][]byte) {
			for range rnd.Intn(5) {
				all = append(all, any())
			}
			return all
		}
		k, to := drawnKey(rnd), []int{lowest, 0, 1, 2, 78, last, highest}[rnd.Intn(7)]
		c.takeGet(k, any())
		c.takeSpan(low, high, any())
		c.takeSpan(k, drawnKey(rnd), any())
		cs := drawnBatch(rnd)
		c.takeChange(cs, rows()...)
		moves := any()
		if rnd.Intn(2) == 0 {
			sorted, _ := (&plain{}).sorted(cs)
			moves = diffReply(sorted...)
		}
		c.askFollow(to, moves)
		c.takeFollow(to, moves, rows()...)
	}
	deep := bytes.Repeat([]byte{3}, 1<<20)
	c := over(t, "P21.14", 4, 3, m)
	c.takeSpan(low, high, append([]byte{0, 0}, deep...))
	c.takeGet(keyK, append([]byte{0, 0}, deep...))
	c.askFollow(4, append([]byte{0, 0}, deep...))
	c.takeFollow(4, append([]byte{0, 0}, deep...), slices.Repeat([][]byte{deep}, 10)...)
	c.takeChange(nil, slices.Repeat([][]byte{nil}, 100000)...)
}
