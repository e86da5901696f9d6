package span_test

import (
	"bytes"
	"encoding/binary"
	"slices"
	"strings"
	"testing"

	"ledger/api"
	"ledger/span"
)

// What follows reads the promises word for word, by rows of letters: it is slow, and its shape is not the program's.

// reading is one way through a tree's touched places, as the promises say it.
type reading struct {
	*rig
	lo, hi api.Key
	looked []int // which pages, in turn, those too that are refused ahead of their load
	loaded int   // how many of them were loaded
	broken bool  // one of them does not stand
}

// nodeOn tells the node on a page by the bytes alone, and whether there is one at all (P9.1, P9.2).
func (r *rig) nodeOn(page int) (n api.Node, is bool) {
	kind, load, e := r.s.Load(page)
	switch {
	case e != api.OK:
		return api.Node{}, false
	case kind == api.KindLeaf && len(load) >= 32 && len(load) <= 160:
		return api.Node{Kind: kind, Key: api.Key(load[:32]), Val: load[32:]}, true
	case kind != api.KindBranch || len(load) != 80:
		return api.Node{}, false
	}
	at := func(place int) int { return int(binary.LittleEndian.Uint32(load[place:])) }
	n = api.Node{
		Kind: kind, Left: at(0), Right: at(4), LeftCount: at(8), RightCount: at(12),
		LeftSum: api.Digest(load[16:48]), RightSum: api.Digest(load[48:]),
	}
	return n, mayBe(n)
}

// mayBe tells whether a branch is one by its form (P9.2).
func mayBe(n api.Node) bool {
	side := func(page, count int, sum api.Digest) bool {
		if page == 0 {
			return count == 0 && sum == api.Digest{}
		}
		return page >= 2 && page < 4096 && count > 0
	}
	keys := n.LeftCount + n.RightCount
	return side(n.Left, n.LeftCount, n.LeftSum) && side(n.Right, n.RightCount, n.RightSum) &&
		n.Left != n.Right && keys >= 2 && keys <= 4096
}

// touched tells the text of a touched place that has a page, nil if a page is refused (P14.2, chapter 11).
func (x *reading) touched(page, count, above int, row string) []byte {
	x.looked = append(x.looked, page)
	if page >= above {
		x.broken = true
		return nil
	}
	x.loaded++
	n, is := x.nodeOn(page)
	keys := 1
	if n.Kind == api.KindBranch {
		keys = n.LeftCount + n.RightCount
	}
	if !is || count >= 0 && count != keys || n.Kind == api.KindBranch && len(row) == 256 || n.Kind == api.KindLeaf && !strings.HasPrefix(bitsOf(n.Key), row) {
		x.broken = true
		return nil
	}
	if n.Kind == api.KindLeaf {
		return loneText(n.Key, string(n.Val))
	}
	l := x.child(n.Left, n.LeftCount, page, row+"0", n.LeftSum)
	if x.broken {
		return nil
	}
	r := x.child(n.Right, n.RightCount, page, row+"1", n.RightSum)
	if x.broken {
		return nil
	}
	switch string([]byte{l[0], r[0]}) {
	case "\x00\x00", "\x00\x02":
		return r
	case "\x02\x00":
		return l
	}
	return pairText(l, r)
}

// child tells the text of a branch's child.
func (x *reading) child(page, count, above int, row string, stated api.Digest) []byte {
	switch h := 256 - len(row); {
	case page == 0:
		return noneText()
	case !outside(row, x.lo, x.hi):
		return x.touched(page, count, above, row)
	default:
		clear(stated[x.width():])
		if stated == emptySum(x.width(), h) {
			return noneText()
		}
		return sumText(stated)
	}
}

// asRead asks of Prove what the plain reading tells, and that it loads just those pages.
func (r *rig) asRead(root int, lo, hi api.Key) *reading {
	r.Helper()
	x := &reading{rig: r, lo: lo, hi: hi}
	want := noneText()
	if root != 0 {
		want = x.touched(root, -1, highest, "")
	}
	before := r.loads()
	if x.broken {
		r.refuses(root, lo, hi, api.ErrCorrupt)
	} else {
		r.proves(root, lo, hi, want)
	}
	if n := r.loads() - before; n != x.loaded {
		r.Errorf("P14.2: %s: Prove(%d, %x, %x) has loaded %d pages, want %d", r.promise, root, lo, hi, n, x.loaded)
	}
	return x
}

// looksAt tells whether a page is looked at.
func (x *reading) looksAt(page int) bool { return slices.Contains(x.looked, page) }

// said is one text of a proof, with the place's digest.
type said struct {
	mark        byte
	sum         api.Digest
	key         api.Key
	val         string
	left, right *said
}

// listener reads a proof (P14.4).
type listener struct {
	w      int
	lo, hi api.Key
	rest   []byte
	shown  []api.Entry
}

// hear reads the text of a place; the first thing that is wrong is told.
func (l *listener) hear(row string) (*said, api.Errno) {
	h, out := 256-len(row), outside(row, l.lo, l.hi)
	if len(l.rest) == 0 {
		return nil, api.ErrProof
	}
	mark := l.rest[0]
	l.rest = l.rest[1:]
	switch {
	case mark == 0:
		return &said{mark: 0, sum: emptySum(l.w, h)}, api.OK
	case mark == 1 && out:
		return l.hearSum(h)
	case mark == 2 && !out:
		return l.hearLone(row)
	case mark == 3 && !out && h > 0:
		return l.hearPair(row)
	}
	return nil, api.ErrProof
}

func (l *listener) hearSum(h int) (*said, api.Errno) {
	if len(l.rest) < 32 {
		return nil, api.ErrProof
	}
	d := api.Digest(l.rest[:32])
	l.rest = l.rest[32:]
	for _, b := range d[l.w:] {
		if b != 0 {
			return nil, api.ErrProof
		}
	}
	if d == emptySum(l.w, h) {
		return nil, api.ErrDefault
	}
	return &said{mark: 1, sum: d}, api.OK
}

func (l *listener) hearLone(row string) (*said, api.Errno) {
	if len(l.rest) < 34 || !strings.HasPrefix(bitsOf(api.Key(l.rest[:32])), row) {
		return nil, api.ErrProof
	}
	k, n := api.Key(l.rest[:32]), int(binary.LittleEndian.Uint16(l.rest[32:]))
	if l.rest = l.rest[34:]; n > 128 || len(l.rest) < n {
		return nil, api.ErrProof
	}
	val := string(l.rest[:n])
	l.rest = l.rest[n:]
	if bitsOf(l.lo) <= bitsOf(k) && bitsOf(k) <= bitsOf(l.hi) {
		l.shown = append(l.shown, api.Entry{Key: k, Val: []byte(val)})
	}
	return &said{mark: 2, sum: loneSum(l.w, k, val, 256-len(row)), key: k, val: val}, api.OK
}

func (l *listener) hearPair(row string) (*said, api.Errno) {
	left, e := l.hear(row + "0")
	if e != api.OK {
		return nil, e
	}
	right, e := l.hear(row + "1")
	if e != api.OK {
		return nil, e
	}
	if left.mark == 0 && (right.mark == 0 || right.mark == 2) || left.mark == 2 && right.mark == 0 {
		return nil, api.ErrProof
	}
	return &said{mark: 3, sum: pairSum(l.w, left.sum, right.sum), left: left, right: right}, api.OK
}

// heard tells what a proof says and shows, or why it is refused (P14.4).
func heard(w int, root api.Digest, lo, hi api.Key, raw []byte) (*said, []api.Entry, api.Errno) {
	switch {
	case w < 1 || w > 32:
		return nil, nil, api.ErrArg
	case bitsOf(lo) > bitsOf(hi):
		return nil, nil, api.ErrRange
	}
	l := listener{w: w, lo: lo, hi: hi, rest: raw}
	whole, e := l.hear("")
	switch {
	case e != api.OK:
		return nil, nil, e
	case len(l.rest) > 0:
		return nil, nil, api.ErrProof
	case whole.sum != root:
		return nil, nil, api.ErrRoot
	}
	return whole, l.shown, api.OK
}

// preimage tells the bytes whose digest is a touched place's (P14.7), and what lies beneath on both sides.
func (s *said) preimage(w int, row string) (text []byte, left, right *said) {
	h := 256 - len(row)
	if h == 0 {
		if s.mark == 2 {
			return slices.Concat([]byte{0}, s.key[:], []byte(s.val)), nil, nil
		}
		return []byte{2}, nil, nil
	}
	empty := &said{sum: emptySum(w, h-1)}
	switch left, right = empty, empty; s.mark {
	case 2:
		self := &said{mark: 2, sum: loneSum(w, s.key, s.val, h-1), key: s.key, val: s.val}
		if bitsOf(s.key)[len(row)] == '0' {
			left = self
		} else {
			right = self
		}
	case 3:
		left, right = s.left, s.right
	}
	return slices.Concat([]byte{1}, left.sum[:w], right.sum[:w]), left, right
}

// beginning tells the entries whose keys begin with a row.
func beginning(list []api.Entry, row string) (part []api.Entry) {
	for _, x := range list {
		if strings.HasPrefix(bitsOf(x.Key), row) {
			part = append(part, x)
		}
	}
	return part
}

// clashOf tells what Clash is to answer, and the height at which the search has ended (P14.7).
func clashOf(w int, root api.Digest, lo, hi api.Key, p1, p2 []byte) (x, y []byte, found bool, height int) {
	one, shown1, e1 := heard(w, root, lo, hi, p1)
	two, shown2, e2 := heard(w, root, lo, hi, p2)
	if e1 != api.OK || e2 != api.OK || same(shown1, shown2) {
		return nil, nil, false, 0
	}
	row := ""
	for {
		x, left1, right1 := one.preimage(w, row)
		y, left2, right2 := two.preimage(w, row)
		if !bytes.Equal(x, y) {
			return x, y, true, 256 - len(row)
		}
		if !same(beginning(shown1, row+"0"), beginning(shown2, row+"0")) {
			one, two, row = left1, left2, row+"0"
		} else {
			one, two, row = right1, right2, row+"1"
		}
	}
}

// ask is a span that is asked of proofs under a root, and the promise that is under test.
type ask struct {
	*testing.T
	promise string
	w       int
	root    api.Digest
	lo, hi  api.Key
}

// verify asks of Verify what the plain reading tells, and answers it.
func (a ask) verify(raw []byte) ([]api.Entry, api.Errno) {
	a.Helper()
	_, want, why := heard(a.w, a.root, a.lo, a.hi, raw)
	got, e := span.Verify(a.w, a.root, a.lo, a.hi, raw)
	if e != why || !same(got, want) {
		a.Errorf("%s: Verify(%d, %x, %x, %x, %x) = %s, %v, want %s, %v", a.promise, a.w, a.root, a.lo, a.hi, raw, told(got), e, told(want), why)
	}
	return got, e
}

// shows asks that a proof holds and shows these entries.
func (a ask) shows(raw []byte, want []api.Entry) {
	a.Helper()
	if got, e := a.verify(raw); e != api.OK || !same(got, want) {
		a.Errorf("%s: Verify(%d, %x, %x, %x, %x) = %s, %v, want %s", a.promise, a.w, a.root, a.lo, a.hi, raw, told(got), e, told(want))
	}
}

// refuses asks that a proof is refused, and why.
func (a ask) refuses(raw []byte, why api.Errno) {
	a.Helper()
	if got, e := a.verify(raw); e != why || len(got) != 0 {
		a.Errorf("%s: Verify(%d, %x, %x, %x, %x) = %s, %v, want none, %v", a.promise, a.w, a.root, a.lo, a.hi, raw, told(got), e, why)
	}
}

// clash asks of Clash what the plain reading tells; found texts must be unlike and have one digest. It answers the height of their place, or -1.
func (a ask) clash(p1, p2 []byte) int {
	a.Helper()
	wantX, wantY, want, height := clashOf(a.w, a.root, a.lo, a.hi, p1, p2)
	x, y, found := span.Clash(a.w, a.root, a.lo, a.hi, p1, p2)
	if found != want || !bytes.Equal(x, wantX) || !bytes.Equal(y, wantY) {
		a.Errorf("%s: Clash(%d, %x, %x, %x, %x, %x) = %x, %x, %t, want %x, %x, %t", a.promise, a.w, a.root, a.lo, a.hi, p1, p2, x, y, found, wantX, wantY, want)
	}
	if !found {
		if x != nil || y != nil {
			a.Errorf("%s: texts without a clash: %x, %x", a.promise, x, y)
		}
		return -1
	}
	if bytes.Equal(x, y) || cutSum(a.w, x) != cutSum(a.w, y) {
		a.Errorf("%s: %x and %x are alike, or their digests are not", a.promise, x, y)
	}
	return height
}

// meets asks that two proofs clash at a height, either way round.
func (a ask) meets(p1, p2 []byte, height int) {
	a.Helper()
	for _, h := range []int{a.clash(p1, p2), a.clash(p2, p1)} {
		if h != height {
			a.Errorf("%s: %x and %x clash at the height %d, want %d", a.promise, p1, p2, h, height)
		}
	}
}
