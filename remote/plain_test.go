package remote_test

import (
	"bytes"
	"encoding/binary"
	"slices"

	"ledger/api"
	"ledger/span"
)

// What follows reads the chapter word for word, over the library's SHA-256 and numbers: of the program only span.Verify is asked.

// saying is what a proof in form says of its key (P13.1, P13.2).
type saying struct {
	w      int
	key    api.Key
	answer api.Answer
	beside [256]api.Digest
}

// raw tells the proof's bytes (P12.8).
func (x saying) raw() []byte {
	raw := []byte{0}
	if x.answer.Found {
		raw = append(binary.LittleEndian.AppendUint16([]byte{1}, uint16(len(x.answer.Val))), x.answer.Val...)
	}
	var bits [32]byte
	var sums []byte
	for h, d := range x.beside {
		if d != empties[x.w][h] {
			bits[h/8] |= 1 << (h % 8)
			sums = append(sums, d[:]...)
		}
	}
	return slices.Concat(raw, bits[:], sums)
}

// foot tells the digest of height 0.
func (x saying) foot() api.Digest {
	if x.answer.Found {
		return leafSum(x.w, x.key, x.answer.Val)
	}
	return empties[x.w][0]
}

// root tells where the path ends.
func (x saying) root() api.Digest {
	sum := x.foot()
	for h := range 256 {
		sum = sideSum(x.w, h, x.key, sum, x.beside[h])
	}
	return sum
}

// readForm tells what a proof says, or what is wrong with it first.
func readForm(w int, k api.Key, raw []byte) (x saying, e api.Errno) {
	x = saying{w: w, key: k}
	short := false
	take := func(n int) []byte {
		if n > len(raw) {
			short, raw = true, nil
			return make([]byte, n)
		}
		piece := raw[:n]
		raw = raw[n:]
		return piece
	}
	switch take(1)[0] {
	case 0:
	case 1:
		n := int(binary.LittleEndian.Uint16(take(2)))
		if n > 128 {
			return saying{}, api.ErrProof
		}
		x.answer = api.Answer{Found: true, Val: bytes.Clone(take(n))}
	default:
		return saying{}, api.ErrProof
	}
	bits := take(32)
	var sums []api.Digest
	for h := range 256 {
		if bits[h/8]>>(h%8)&1 == 1 {
			sums = append(sums, api.Digest(take(32)))
		}
	}
	if short || len(raw) > 0 {
		return saying{}, api.ErrProof
	}
	for h := range 256 {
		x.beside[h] = empties[w][h]
		if bits[h/8]>>(h%8)&1 == 0 {
			continue
		}
		d := sums[0]
		sums = sums[1:]
		if !bytes.Equal(d[w:], make([]byte, 32-w)) {
			return saying{}, api.ErrProof
		}
		if d == empties[w][h] {
			return saying{}, api.ErrDefault
		}
		x.beside[h] = d
	}
	return x, api.OK
}

// plain is a session.
type plain struct {
	w, v int
	root api.Digest
}

// The frames.

func number(n int) []byte { return binary.LittleEndian.AppendUint64(nil, uint64(n)) }

func proveFrame(k api.Key, v int) []byte { return slices.Concat([]byte{4}, k[:], number(v)) }

func spanFrame(lo, hi api.Key, v int) []byte {
	return slices.Concat([]byte{5}, lo[:], hi[:], number(v))
}

func rootFrame(v int) []byte { return append([]byte{3}, number(v)...) }

func diffFrame(v, to int) []byte { return slices.Concat([]byte{7}, number(v), number(to)) }

// commitFrame tells the frame of a batch, in the order of its changes.
func commitFrame(cs ...api.Change) []byte {
	f := append([]byte{1}, binary.LittleEndian.AppendUint16(nil, uint16(len(cs)))...)
	return append(f, changesText(cs)...)
}

func changesText(cs []api.Change) (b []byte) {
	for _, c := range cs {
		if c.Del {
			b = append(append(b, 2), c.Key[:]...)
			continue
		}
		b = append(append(b, 1), c.Key[:]...)
		b = append(binary.LittleEndian.AppendUint16(b, uint16(len(c.Val))), c.Val...)
	}
	return b
}

// The replies.

func refusal(n int) []byte { return binary.LittleEndian.AppendUint16(nil, uint16(n)) }

func proofReply(raw []byte) []byte { return append([]byte{0, 0}, raw...) }

func rootReply(d api.Digest) []byte { return append([]byte{0, 0}, d[:]...) }

func commitReply(v int) []byte { return append([]byte{0, 0}, number(v)...) }

func diffReply(cs ...api.Change) []byte {
	return append(binary.LittleEndian.AppendUint32([]byte{0, 0}, uint32(len(cs))), changesText(cs)...)
}

// body tells what stands behind a reply's Err, or why the reply is not read.
func body(reply []byte) ([]byte, api.Errno) {
	switch {
	case len(reply) < 2:
		return nil, api.ErrReply
	case reply[0] == 0 && reply[1] == 0:
		return reply[2:], api.OK
	case len(reply) > 2:
		return nil, api.ErrReply
	}
	return nil, api.ErrServer
}

// bodyOf tells the body of a kind that has so many bytes.
func bodyOf(reply []byte, size int) ([]byte, api.Errno) {
	b, e := body(reply)
	if e == api.OK && len(b) != size {
		return nil, api.ErrReply
	}
	return b, e
}

// readMoves tells the changes of a reply to diff, which must rise.
func readMoves(reply []byte) (cs []api.Change, e api.Errno) {
	b, e := body(reply)
	if e != api.OK {
		return nil, e
	}
	if len(b) < 4 {
		return nil, api.ErrReply
	}
	n := binary.LittleEndian.Uint32(b)
	if n > 4096 {
		return nil, api.ErrReply
	}
	b = b[4:]
	for range n {
		if len(b) < 33 || b[0] != 1 && b[0] != 2 {
			return nil, api.ErrReply
		}
		c := api.Change{Key: api.Key(b[1:33]), Del: b[0] == 2}
		b = b[33:]
		if !c.Del {
			if len(b) < 2 {
				return nil, api.ErrReply
			}
			size := int(binary.LittleEndian.Uint16(b))
			if size > 128 || len(b) < 2+size {
				return nil, api.ErrReply
			}
			c.Val, b = bytes.Clone(b[2:2+size]), b[2+size:]
		}
		if len(cs) > 0 && bytes.Compare(cs[len(cs)-1].Key[:], c.Key[:]) >= 0 {
			e = api.ErrReply
		}
		cs = append(cs, c)
	}
	if len(b) > 0 || e != api.OK {
		return nil, api.ErrReply
	}
	return cs, api.OK
}

// held tells what a reply's proof says under the root.
func (p *plain) held(k api.Key, reply []byte) (saying, api.Errno) {
	raw, e := body(reply)
	if e != api.OK {
		return saying{}, e
	}
	x, e := readForm(p.w, k, raw)
	if e == api.OK && x.root() != p.root {
		return saying{}, api.ErrRoot
	}
	return x, e
}

func (p *plain) takeGet(k api.Key, reply []byte) (api.Answer, api.Errno) {
	x, e := p.held(k, reply)
	return x.answer, e
}

func (p *plain) askSpan(lo, hi api.Key) ([]byte, api.Errno) {
	if bytes.Compare(lo[:], hi[:]) > 0 {
		return nil, api.ErrRange
	}
	return spanFrame(lo, hi, p.v), api.OK
}

func (p *plain) takeSpan(lo, hi api.Key, reply []byte) ([]api.Entry, api.Errno) {
	if bytes.Compare(lo[:], hi[:]) > 0 {
		return nil, api.ErrRange
	}
	raw, e := body(reply)
	if e != api.OK {
		return nil, e
	}
	return span.Verify(p.w, p.root, lo, hi, raw)
}

// sorted tells the changes with their keys rising, or why they are no batch of this session.
func (p *plain) sorted(cs []api.Change) ([]api.Change, api.Errno) {
	if len(cs) > 64 {
		return nil, api.ErrMany
	}
	for _, c := range cs {
		if !c.Del && len(c.Val) > 128 {
			return nil, api.ErrLong
		}
	}
	places := map[api.Key]int{}
	for i, c := range cs {
		places[c.Key] = i
	}
	if len(places) < len(cs) {
		return nil, api.ErrDup
	}
	if p.v == 1<<30 {
		return nil, api.ErrArg
	}
	sorted := slices.Clone(cs)
	slices.SortFunc(sorted, func(a, b api.Change) int { return bytes.Compare(a.Key[:], b.Key[:]) })
	return sorted, api.OK
}

// asked tells the frames that ask for the proofs of the changes' keys, and one more.
func (p *plain) asked(cs []api.Change, last []byte) (frames [][]byte) {
	for _, c := range cs {
		frames = append(frames, proveFrame(c.Key, p.v))
	}
	return append(frames, last)
}

func (p *plain) askChange(cs []api.Change) ([][]byte, api.Errno) {
	sorted, e := p.sorted(cs)
	if e != api.OK {
		return nil, e
	}
	return p.asked(sorted, commitFrame(sorted...)), api.OK
}

func (p *plain) takeChange(cs []api.Change, replies [][]byte) (int, api.Errno) {
	sorted, e := p.sorted(cs)
	if e != api.OK {
		return 0, e
	}
	said, e := p.shown(sorted, replies, false)
	if e != api.OK {
		return 0, e
	}
	version, e := bodyOf(replies[len(cs)], 8)
	if e != api.OK {
		return 0, e
	}
	if !bytes.Equal(version, number(p.v+1)) {
		return 0, api.ErrBehind
	}
	p.v, p.root = p.v+1, p.next(256, sorted, said)
	return p.v, api.OK
}

func (p *plain) askMoves(to int) ([]byte, api.Errno) {
	if to < p.v+1 || to > 1<<30 {
		return nil, api.ErrArg
	}
	return diffFrame(p.v, to), api.OK
}

// moves tells what askFollow and takeFollow read.
func (p *plain) moves(to int, moves []byte) ([]api.Change, api.Errno) {
	if _, e := p.askMoves(to); e != api.OK {
		return nil, e
	}
	return readMoves(moves)
}

func (p *plain) askFollow(to int, moves []byte) ([][]byte, api.Errno) {
	cs, e := p.moves(to, moves)
	if e != api.OK {
		return nil, e
	}
	return p.asked(cs, rootFrame(to)), api.OK
}

func (p *plain) takeFollow(to int, moves []byte, replies [][]byte) (int, api.Errno) {
	cs, e := p.moves(to, moves)
	if e != api.OK {
		return 0, e
	}
	said, e := p.shown(cs, replies, true)
	if e != api.OK {
		return 0, e
	}
	sum, e := bodyOf(replies[len(cs)], 32)
	if e != api.OK {
		return 0, e
	}
	next := p.next(256, cs, said)
	if !bytes.Equal(sum, next[:]) {
		return 0, api.ErrMismatch
	}
	p.v, p.root = to, next
	return to, api.OK
}

// shown tells what the replies but the last say of the changes' keys; effect is whether each change must take effect.
func (p *plain) shown(cs []api.Change, replies [][]byte, effect bool) (said []saying, e api.Errno) {
	if len(replies) != len(cs)+1 {
		return nil, api.ErrReply
	}
	for i, c := range cs {
		x, e := p.held(c.Key, replies[i])
		if e != api.OK {
			return nil, e
		}
		same := x.answer.Found && string(x.answer.Val) == string(c.Val)
		if c.Del {
			same = !x.answer.Found
		}
		if effect && same {
			return nil, api.ErrReply
		}
		said = append(said, x)
	}
	return said, api.OK
}

// next tells the digest of height h of changes (P13.11).
func (p *plain) next(h int, cs []api.Change, said []saying) api.Digest {
	if len(cs) == 0 {
		return p.root
	}
	if h == 0 {
		if cs[0].Del {
			return empties[p.w][0]
		}
		return leafSum(p.w, cs[0].Key, cs[0].Val)
	}
	right := 0
	for right < len(cs) && bit(cs[right].Key, 256-h) == 0 {
		right++
	}
	l, r := said[0].beside[h-1], said[0].beside[h-1]
	if right > 0 {
		l = p.next(h-1, cs[:right], said[:right])
	}
	if right < len(cs) {
		r = p.next(h-1, cs[right:], said[right:])
	}
	return pairSum(p.w, l, r)
}
