package remote_test

import (
	"bytes"
	"encoding/binary"
	"fmt"
	"slices"
	"testing"

	"ledger/api"
)

// laters tells maps to which others lead.
func laters() []entries {
	m := someMap()
	return []entries{{}, {keyK: "a"}, m, m.behind(del(keyK)), m.behind(put(keyK, ""), put(api.Key{99}, "new"), del(high), put(low, text(2, 128))), {keyQ: "only"}}
}

// P21.9: AskMoves is the frame of the request diff from the head, byte for byte; ErrArg, unless `to` is from v + 1 to the highest version.
func TestAskMoves(t *testing.T) {
	for _, v := range []int{0, 1, 255, last - 2, last - 1, last} {
		c := over(t, "P21.9", 4, v, entries{})
		for _, to := range []int{lowest, -last, -2, -1, 0, 1, 2, v - 1, v, v + 1, v + 2, 256, last - 1, last, last + 1, last + 2, 1 << 32, 1<<32 + v + 1, highest} {
			f, e := c.askMoves(to)
			if to <= v || to > last {
				c.is(fmt.Sprint("to ", to, " at version ", v), e, api.ErrArg)
				if f != nil {
					c.fails("to %d: refused with %v", to, f)
				}
				continue
			}
			want := append(append([]byte{7}, byte(v), byte(v>>8), byte(v>>16), byte(v>>24), 0, 0, 0, 0), byte(to), byte(to>>8), byte(to>>16), byte(to>>24), 0, 0, 0, 0)
			if e != api.OK || !bytes.Equal(f, want) {
				c.fails("AskMoves(%d) at version %d: %v, %v", to, v, f, e)
			}
		}
	}
}

// P21.10: AskFollow tells prove for each key of the moves, in their order, and root of the later version behind them.
func TestAskFollow(t *testing.T) {
	for _, v := range []int{0, 255, last - 1} {
		for _, m := range laters() {
			for _, n := range laters() {
				for _, to := range []int{v + 1, last} {
					c := over(t, "P21.10", 4, v, m)
					moves := m.to(n)
					frames, e := c.askFollow(to, diffReply(moves...))
					if e != api.OK || len(frames) != len(moves)+1 {
						c.fails("AskFollow of %d moves: %d frames, %v", len(moves), len(frames), e)
						continue
					}
					for i, x := range moves {
						if !bytes.Equal(frames[i], proveFrame(x.Key, v)) {
							c.fails("frame %d: %v", i, frames[i])
						}
					}
					if !bytes.Equal(frames[len(moves)], rootFrame(to)) {
						c.fails("the last frame: %v", frames[len(moves)])
					}
				}
			}
		}
	}
}

// badMoves tells replies to diff that are not taken, and the number.
func badMoves() []struct {
	what  string
	moves []byte
	want  api.Errno
} {
	long := append(append([]byte{0, 0, 1, 0, 0, 0, 1}, keyK[:]...), append([]byte{129, 0}, make([]byte, 129)...)...)
	many := diffReply(rows(4097)...)
	right := diffReply(del(keyK), put(keyQ, "bc"))
	third := bytes.Clone(right)
	third[6] = 3
	return []struct {
		what  string
		moves []byte
		want  api.Errno
	}{
		{"no bytes", nil, api.ErrReply},
		{"one byte", []byte{0}, api.ErrReply},
		{"no number", []byte{0, 0}, api.ErrReply},
		{"half a number", []byte{0, 0, 0, 0, 0}, api.ErrReply},
		{"a refusal and more", append([]byte{151, 0}, right[2:]...), api.ErrReply},
		{"a refusal", []byte{151, 0}, api.ErrServer},
		{"a refusal above 255", []byte{0, 1}, api.ErrServer},
		{"cut short", right[:len(right)-1], api.ErrReply},
		{"more bytes", append(bytes.Clone(right), 0), api.ErrReply},
		{"fewer changes than the number says", append([]byte{0, 0, 3, 0, 0, 0}, right[6:]...), api.ErrReply},
		{"more changes than the number says", append([]byte{0, 0, 1, 0, 0, 0}, right[6:]...), api.ErrReply},
		{"neither put nor delete", third, api.ErrReply},
		{"a long value", long, api.ErrReply},
		{"more than a list", many, api.ErrReply},
		{"out of order", diffReply(put(keyQ, "bc"), del(keyK)), api.ErrReply},
		{"out of order at the end", diffReply(del(low), del(keyK), put(high, "x"), put(keyQ, "bc")), api.ErrReply},
		{"out of order at the beginning", diffReply(del(keyK), del(low), put(keyQ, "bc")), api.ErrReply},
		{"out of order in the last bit", diffReply(del(keyK), del(flipped(keyK, 255))), api.ErrReply},
		{"one key twice", diffReply(del(keyK), put(keyK, "x")), api.ErrReply},
		{"one change twice", diffReply(del(keyK), put(keyQ, "bc"), put(keyQ, "bc")), api.ErrReply},
	}
}

// rows tells deletes of so many keys, rising.
func rows(n int) (cs []api.Change) {
	for i := range n {
		cs = append(cs, del(api.Key{byte(i >> 8), byte(i)}))
	}
	return cs
}

// P21.10: AskFollow refuses `to` first, then what the moves' reply is, then changes that do not rise.
func TestAskFollowRefuses(t *testing.T) {
	m := someMap()
	c := over(t, "P21.10", 4, 2, m)
	for _, b := range badMoves() {
		frames, e := c.askFollow(3, b.moves)
		c.is(b.what, e, b.want)
		if frames != nil {
			c.fails("%s: refused with %d frames", b.what, len(frames))
		}
		for _, to := range []int{lowest, -1, 0, 1, 2, last + 1, highest} {
			_, e := c.askFollow(to, b.moves)
			c.is(fmt.Sprint(b.what, ", to ", to), e, api.ErrArg)
		}
	}
	for _, to := range []int{lowest, -1, 0, 1, 2, last + 1, highest} {
		_, e := c.askFollow(to, diffReply(del(keyK)))
		c.is(fmt.Sprint("to ", to), e, api.ErrArg)
	}
	for _, reply := range append(spoilt(diffReply(del(keyK), put(keyQ, "bc"), put(high, "")), 1, 3, 128, 255), append(refusals(), otherKinds()...)...) {
		c.askFollow(3, reply)
	}
}

// P21.10: as many moves as a list may have are followed.
func TestLongestMoves(t *testing.T) {
	t.Parallel()
	puts := rows(4096)
	for i := range puts {
		puts[i] = put(puts[i].Key, string(binary.LittleEndian.AppendUint16(nil, uint16(i))))
	}
	c := over(t, "P21.11", 4, 9, entries{})
	frames, e := c.askFollow(10, diffReply(puts...))
	if e != api.OK || len(frames) != 4097 {
		c.fails("AskFollow: %d frames, %v", len(frames), e)
	}
	m := entries{}.behind(puts...)
	replies := append(slices.Repeat([][]byte{proofReply(make([]byte, 33))}, 4096), rootReply(m.root(4)))
	if v, e := c.takeFollow(10, diffReply(puts...), replies...); v != 10 || e != api.OK {
		c.fails("TakeFollow: %d, %v", v, e)
	}
	c.headIs(10, m.root(4))
}

// P21.11: with the map's proofs and the later map's root the head becomes `to` with that root, over one version and over many, at every width.
func TestTakeFollow(t *testing.T) {
	t.Parallel()
	for _, w := range []int{1, 2, 4, 31, 32} {
		for _, m := range laters() {
			for _, n := range laters() {
				for _, to := range []int{6, last} {
					c := over(t, fmt.Sprint("P21.11: width ", w), w, 5, m)
					v, e := c.takeFollow(to, diffReply(m.to(n)...), m.followReplies(w, n)...)
					if v != to || e != api.OK {
						c.fails("TakeFollow(%d) of %d moves: %d, %v", to, len(m.to(n)), v, e)
					}
					c.headIs(to, n.root(w))
				}
			}
		}
	}
}

// P21.11: the refusals, each ahead of those that come behind it in the document's order.
func TestTakeFollowRefuses(t *testing.T) {
	m := someMap()
	n := m.behind(del(keyK), put(keyQ, "other"))
	moves, right := diffReply(m.to(n)...), m.followReplies(4, n)
	c := over(t, "P21.11", 4, 2, m)
	some := [][][]byte{nil, right, {nil}, {{5, 0}, {5, 0}}, append(slices.Clone(right), nil)}
	for _, replies := range some {
		for _, b := range badMoves() {
			_, e := c.takeFollow(3, b.moves, replies...)
			c.is(b.what, e, b.want)
			_, e = c.takeFollow(2, b.moves, replies...)
			c.is(b.what+", to the head", e, api.ErrArg)
		}
		for _, to := range []int{lowest, -1, 0, 1, 2, last + 1, highest} {
			_, e := c.takeFollow(to, moves, replies...)
			c.is(fmt.Sprint("to ", to), e, api.ErrArg)
		}
	}
	for _, k := range []int{0, 1, 2, 4, 5, 70} {
		_, e := c.takeFollow(3, moves, slices.Repeat([][]byte{right[0]}, k)...)
		c.is("another number of replies", e, api.ErrReply)
		_, e = c.takeFollow(3, moves, slices.Repeat([][]byte{{5, 0}}, k)...)
		c.is("another number of refusals", e, api.ErrReply)
	}
	bad := []struct {
		reply []byte
		want  api.Errno
	}{
		{nil, api.ErrReply}, {[]byte{5, 0, 0}, api.ErrReply}, {[]byte{5, 0}, api.ErrServer}, {[]byte{0, 0}, api.ErrProof},
		{append(right[0], 0), api.ErrProof}, {emptyWritten(4), api.ErrDefault}, {proofReply(m.proof(4, high)), api.ErrRoot},
	}
	for i, first := range bad {
		_, e := c.takeFollow(3, moves, with(right, 0, first.reply)...)
		c.is(fmt.Sprint("the first proof: ", i), e, first.want)
		_, e = c.takeFollow(3, moves, with(right, 1, first.reply)...)
		c.is(fmt.Sprint("the second proof: ", i), e, first.want)
		for j, then := range append(bad, bad[0], bad[2]) {
			_, e = c.takeFollow(3, moves, with(with(right, 0, first.reply), 1, then.reply)...)
			c.is(fmt.Sprint("the first proof ahead of the second: ", i, j), e, first.want)
			_, e = c.takeFollow(3, moves, with(with(right, 1, first.reply), 2, then.reply)...)
			c.is(fmt.Sprint("the second proof ahead of the root: ", i, j), e, first.want)
		}
		_, e = c.takeFollow(3, moves, with(with(right, 1, first.reply), 2, rootReply(m.root(4)))...)
		c.is(fmt.Sprint("the second proof ahead of ErrMismatch: ", i), e, first.want)
	}
	_, e := c.takeFollow(3, moves, right[1], right[0], right[2])
	c.is("the proofs of each other's keys", e, api.ErrRoot)
	c.headIs(2, m.root(4))
}

// P21.11: of the root's reply the form, the refusal, and then the digest, in all its bytes.
func TestRootReplies(t *testing.T) {
	t.Parallel()
	m := someMap()
	for _, w := range []int{1, 4, 32} {
		for _, n := range []entries{m, m.behind(del(keyK)), m.behind(del(keyK), put(keyQ, "other"))} {
			moves, right := diffReply(m.to(n)...), m.followReplies(w, n)
			at := len(right) - 1
			c := over(t, fmt.Sprint("P21.11: width ", w), w, 2, m)
			for _, r := range []struct {
				reply []byte
				want  api.Errno
			}{
				{nil, api.ErrReply}, {[]byte{0, 0}, api.ErrReply}, {right[at][:33], api.ErrReply}, {append(bytes.Clone(right[at]), 0), api.ErrReply},
				{append([]byte{5, 0}, right[at][2:]...), api.ErrReply}, {[]byte{5, 0}, api.ErrServer}, {[]byte{151, 0}, api.ErrServer},
				{rootReply(flippedSum(n.root(w), 0)), api.ErrMismatch}, {rootReply(flippedSum(n.root(w), 8*w-1)), api.ErrMismatch}, {rootReply(flippedSum(n.root(w), 255)), api.ErrMismatch},
				{commitReply(3), api.ErrReply}, {diffReply(), api.ErrReply},
			} {
				_, e := c.takeFollow(3, moves, with(right, at, r.reply)...)
				c.is(fmt.Sprint("the root's reply ", r.reply), e, r.want)
			}
			for _, reply := range append(spoilt(right[at], 1, 128, 255), refusals()...) {
				c.takeFollow(3, moves, with(right, at, reply)...)
			}
			c.headIs(2, m.root(w))
		}
	}
}

// flippedSum tells a digest with one bit turned.
func flippedSum(d api.Digest, bit int) api.Digest { return api.Digest(flipped(api.Key(d), bit)) }

// P21.11: a change that by its proof takes no effect is refused with ErrReply, behind what is wrong with its proof and ahead of what comes behind it; the root may be right.
func TestNoEffect(t *testing.T) {
	m := someMap()
	for _, w := range []int{1, 4, 32} {
		root := rootReply(m.root(w))
		for _, idle := range []api.Change{put(keyK, "a"), put(flipped(keyK, 3), ""), put(flipped(keyK, 40), text(1, 128)), del(api.Key{99}), del(flipped(keyK, 255))} {
			c := over(t, fmt.Sprint("P21.11: width ", w), w, 2, m)
			proof := proofReply(m.proof(w, idle.Key))
			_, e := c.takeFollow(3, diffReply(idle), proof, root)
			c.is("a change that takes no effect", e, api.ErrReply)
			for _, last := range [][]byte{nil, {5, 0}, rootReply(api.Digest{})} {
				_, e := c.takeFollow(3, diffReply(idle), proof, last)
				c.is("no effect, ahead of the root's reply", e, api.ErrReply)
			}
			_, e = c.takeFollow(3, diffReply(idle), []byte{5, 0}, root)
			c.is("no effect, but a refusal ahead of it", e, api.ErrServer)
			_, e = c.takeFollow(3, diffReply(idle), []byte{0, 0}, root)
			c.is("no effect, but no proof", e, api.ErrProof)
			_, e = c.takeFollow(3, diffReply(idle, put(high, "new")), proof, []byte{0, 0}, root)
			c.is("no effect, ahead of the next proof", e, api.ErrReply)
			_, e = c.takeFollow(3, diffReply(del(low), idle), []byte{5, 0}, proof, root)
			c.is("no effect, behind the proof ahead of it", e, api.ErrServer)
			// In a batch it may stand.
			if v, e := c.takeChange([]api.Change{idle}, proof, commitReply(3)); v != 3 || e != api.OK {
				c.fails("TakeChange of a change that takes no effect: %d, %v", v, e)
			}
			c.headIs(3, m.root(w))
		}
		for _, moving := range []api.Change{put(keyK, ""), put(keyK, "aa"), put(keyK, "b"), del(flipped(keyK, 3)), put(api.Key{99}, ""), put(flipped(keyK, 3), "x"), put(flipped(keyK, 40), text(1, 127))} {
			c := over(t, fmt.Sprint("P21.11: width ", w), w, 2, m)
			n := m.behind(moving)
			v, e := c.takeFollow(3, diffReply(moving), m.followReplies(w, n)...)
			if v != 3 || e != api.OK {
				c.fails("a change that takes effect: %d, %v", v, e)
			}
			c.headIs(3, n.root(w))
		}
	}
}

// P21.11: each proof's reply cut, longer, changed in a byte, or of another kind, is refused by what is wrong with it; at a small width some are taken.
func TestSpoiltFollows(t *testing.T) {
	t.Parallel()
	m := entries{keyK: "a", keyQ: "bc", high: "z"}
	n := m.behind(put(keyQ, "x"), del(keyK))
	for _, w := range []int{1, 4, 32} {
		moves, right := diffReply(m.to(n)...), m.followReplies(w, n)
		for at := range 2 {
			taken := 0
			c := over(t, fmt.Sprint("P21.11: width ", w), w, 2, m)
			for _, reply := range append(spoilt(right[at], 1, 16, 128), append(refusals(), otherKinds()...)...) {
				if _, e := c.takeFollow(3, moves, with(right, at, reply)...); e == api.OK {
					taken++
					c = over(t, c.promise, w, 2, m)
				}
			}
			if w > 1 && taken > 0 {
				c.fails("%d spoilt replies were taken", taken)
			}
		}
	}
}
