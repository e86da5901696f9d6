package remote_test

import (
	"bytes"
	"fmt"
	"slices"
	"testing"

	"ledger/api"
)

// manyPuts tells puts of unlike keys, which do not rise.
func manyPuts(n, size int) (cs []api.Change) {
	for i := range n {
		cs = append(cs, put(api.Key{byte(i * 89), byte(i)}, text(i, size)))
	}
	return cs
}

// batches tells right batches about a map: none, some, as many as there may be, falling, with the longest value, with changes that take no effect.
func batches() [][]api.Change {
	return [][]api.Change{
		nil, {}, {put(keyK, "a")}, {put(keyK, "new")}, {del(keyK)}, {del(api.Key{99})}, {put(api.Key{99}, "")},
		{put(keyQ, "x"), del(keyK)}, {del(high), put(keyQ, text(3, 128)), put(flipped(keyK, 255), "near"), del(keyK), put(low, "")},
		{api.Change{Key: keyK, Del: true, Val: []byte(text(1, 200))}, api.Change{Key: low, Del: true, Val: []byte("v")}},
		manyPuts(64, 5), manyPuts(64, 128), someMap().to(entries{}), entries{}.to(someMap()),
	}
}

// wrongBatches tells batches that Build refuses, with the number.
func wrongBatches() map[string]struct {
	cs   []api.Change
	want api.Errno
} {
	long, twice := put(api.Key{9, 9}, text(1, 129)), put(api.Key{9, 9}, "")
	type row = struct {
		cs   []api.Change
		want api.Errno
	}
	return map[string]row{
		"one more than may be":          {manyPuts(65, 1), api.ErrMany},
		"too many, one long, one twice": {append(manyPuts(63, 1), long, twice), api.ErrMany},
		"a list's length":               {slices.Repeat([]api.Change{del(keyK)}, 4096), api.ErrMany},
		"more than a list":              {slices.Repeat([]api.Change{del(keyK)}, 4097), api.ErrMany},
		"one long":                      {[]api.Change{put(keyK, text(1, 129))}, api.ErrLong},
		"the last long, one twice":      {append(manyPuts(62, 1), twice, long), api.ErrLong},
		"one twice":                     {[]api.Change{put(keyK, "a"), del(keyK)}, api.ErrDup},
		"the ends alike":                {append(manyPuts(63, 128), manyPuts(1, 0)...), api.ErrDup},
		"two deletes":                   {[]api.Change{del(keyQ), put(keyK, ""), del(keyQ)}, api.ErrDup},
	}
}

// P21.7: AskChange tells one frame more than there are changes: prove for each key in rising order, then the commit of the changes in that order, byte for byte.
func TestAskChange(t *testing.T) {
	for _, v := range []int{0, 1, 255, last - 1} {
		c := over(t, "P21.7", 4, v, someMap())
		for _, cs := range batches() {
			frames, e := c.askChange(cs...)
			if e != api.OK || len(frames) != len(cs)+1 {
				c.fails("AskChange of %d: %d frames, %v", len(cs), len(frames), e)
				continue
			}
			sorted := slices.Clone(cs)
			slices.SortFunc(sorted, func(a, b api.Change) int { return bytes.Compare(a.Key[:], b.Key[:]) })
			for i, s := range sorted {
				if !bytes.Equal(frames[i], proveFrame(s.Key, v)) {
					c.fails("frame %d: %v", i, frames[i])
				}
			}
			if !bytes.Equal(frames[len(cs)], commitFrame(sorted...)) {
				c.fails("the last frame: %v", frames[len(cs)])
			}
		}
	}
}

// P21.7: AskChange refuses what Build refuses, in its order, and ErrArg at the highest version behind that.
func TestAskChangeRefuses(t *testing.T) {
	for what, b := range wrongBatches() {
		for _, v := range []int{0, last} {
			c := over(t, "P21.7", 4, v, someMap())
			frames, e := c.askChange(b.cs...)
			c.is(what, e, b.want)
			if frames != nil {
				c.fails("%s: refused with %d frames", what, len(frames))
			}
		}
	}
	for _, cs := range batches() {
		c := over(t, "P21.7", 4, last, someMap())
		frames, e := c.askChange(cs...)
		c.is("at the highest version", e, api.ErrArg)
		if frames != nil {
			c.fails("refused with %d frames", len(frames))
		}
	}
}

// P21.8: with the map's proofs and the next version the head becomes that of the changed map, at every width.
func TestTakeChange(t *testing.T) {
	t.Parallel()
	for _, w := range []int{1, 2, 4, 16, 31, 32} {
		for _, m := range []entries{{}, {keyK: "a"}, someMap()} {
			for _, cs := range batches() {
				if w != 4 && len(cs) == 64 {
					continue
				}
				c := over(t, fmt.Sprint("P21.8: width ", w), w, 41, m)
				v, e := c.takeChange(cs, m.changeReplies(w, 41, cs...)...)
				if v != 42 || e != api.OK {
					c.fails("TakeChange of %d: %d, %v", len(cs), v, e)
				}
				c.headIs(42, m.behind(cs...).root(w))
			}
		}
	}
}

// P21.8, P21.2: changes behind changes: each goes on from the head that the one ahead of it left.
func TestChangesInARow(t *testing.T) {
	m := entries{}
	c := over(t, "P21.8", 32, 0, m)
	rnd := drawn(1)
	for v := range 60 {
		cs := drawnBatch(rnd)
		replies := m.changeReplies(32, v, cs...)
		if rnd.Intn(3) == 0 {
			c.takeChange(cs, with(replies, len(cs), commitReply(v+2))...)
		}
		got, e := c.takeChange(cs, replies...)
		m = m.behind(cs...)
		if got != v+1 || e != api.OK {
			c.fails("change %d: %d, %v", v, got, e)
		}
		c.headIs(v+1, m.root(32))
	}
}

// P21.8: up to the highest version, and no further.
func TestTakeChangeAtTheEnd(t *testing.T) {
	m := someMap()
	cs := []api.Change{del(keyK)}
	c := over(t, "P21.8", 4, last-1, m)
	if v, e := c.takeChange(cs, m.changeReplies(4, last-1, cs...)...); v != last || e != api.OK {
		c.fails("TakeChange to the highest version: %d, %v", v, e)
	}
	n := m.behind(cs...)
	_, e := c.takeChange(cs, n.changeReplies(4, last, cs...)...)
	c.is("beyond the highest version", e, api.ErrArg)
	_, e = c.takeChange(nil, commitReply(last+1))
	c.is("beyond the highest version", e, api.ErrArg)
	c.headIs(last, n.root(4))
}

// P21.8: the refusals, each ahead of those that come behind it in the document's order.
func TestTakeChangeRefuses(t *testing.T) {
	m := someMap()
	cs := []api.Change{put(keyQ, "x"), del(keyK)} // the keys stand the other way round in the frames
	right := m.changeReplies(4, 2, cs...)
	c := over(t, "P21.8", 4, 2, m)
	for what, b := range wrongBatches() {
		for _, replies := range [][][]byte{nil, right, slices.Repeat([][]byte{nil}, len(b.cs)+1)} {
			_, e := c.takeChange(b.cs, replies...)
			c.is(what, e, b.want)
			_, e = over(t, "P21.8", 4, last, m).takeChange(b.cs, replies...)
			c.is(what+", at the highest version", e, b.want)
		}
	}
	for _, n := range []int{0, 1, 2, 4, 5, 70} {
		_, e := over(t, "P21.8", 4, last, m).takeChange(cs, slices.Repeat([][]byte{right[0]}, n)...)
		c.is("at the highest version, another number of replies", e, api.ErrArg)
		_, e = c.takeChange(cs, slices.Repeat([][]byte{right[0]}, n)...)
		c.is("another number of replies", e, api.ErrReply)
		_, e = c.takeChange(cs, slices.Repeat([][]byte{{5, 0}}, n)...)
		c.is("another number of refusals", e, api.ErrReply)
	}
	bad := []struct {
		reply []byte
		want  api.Errno
	}{
		{nil, api.ErrReply}, {[]byte{5, 0, 0}, api.ErrReply}, {[]byte{5, 0}, api.ErrServer}, {[]byte{0, 0}, api.ErrProof},
		{append(right[0], 0), api.ErrProof}, {emptyWritten(4), api.ErrDefault}, {proofReply(m.proof(4, high)), api.ErrRoot},
	}
	for i, first := range bad {
		_, e := c.takeChange(cs, with(right, 0, first.reply)...)
		c.is(fmt.Sprint("the first proof: ", i), e, first.want)
		_, e = c.takeChange(cs, with(right, 1, first.reply)...)
		c.is(fmt.Sprint("the second proof: ", i), e, first.want)
		for j, then := range append(bad, bad[0], bad[2]) {
			_, e = c.takeChange(cs, with(with(right, 0, first.reply), 1, then.reply)...)
			c.is(fmt.Sprint("the first proof ahead of the second: ", i, j), e, first.want)
			_, e = c.takeChange(cs, with(with(right, 1, first.reply), 2, then.reply)...)
			c.is(fmt.Sprint("the second proof ahead of the commit: ", i, j), e, first.want)
		}
		_, e = c.takeChange(cs, with(with(right, 1, first.reply), 2, commitReply(4))...)
		c.is(fmt.Sprint("the second proof ahead of ErrBehind: ", i), e, first.want)
	}
	_, e := c.takeChange(cs, right[1], right[0], right[2])
	c.is("the proofs of each other's keys", e, api.ErrRoot)
	c.headIs(2, m.root(4))
}

// emptyWritten tells a reply with a proof that writes an empty subtree's digest out.
func emptyWritten(w int) []byte {
	return slices.Concat([]byte{0, 0, 0}, make([]byte, 31), []byte{128}, empties[w][255][:])
}

// P21.8: of the commit's reply the form, the refusal, and then the version: nothing but v + 1 is taken.
func TestCommitReplies(t *testing.T) {
	t.Parallel()
	m := someMap()
	for _, cs := range [][]api.Change{nil, {del(keyK)}, {put(keyQ, "x"), del(keyK)}} {
		for _, v := range []int{0, 2, 255, last - 1} {
			c := over(t, "P21.8", 4, v, m)
			right := m.changeReplies(4, v, cs...)
			for _, r := range []struct {
				reply []byte
				want  api.Errno
			}{
				{nil, api.ErrReply}, {[]byte{0}, api.ErrReply}, {[]byte{0, 0}, api.ErrReply}, {commitReply(v + 1)[:9], api.ErrReply},
				{append(commitReply(v+1), 0), api.ErrReply}, {append([]byte{5, 0}, number(v+1)...), api.ErrReply}, {[]byte{5, 0}, api.ErrServer}, {[]byte{151, 0}, api.ErrServer},
				{commitReply(v), api.ErrBehind}, {commitReply(v + 2), api.ErrBehind}, {commitReply(v - 1), api.ErrBehind}, {commitReply(-1), api.ErrBehind},
				{commitReply(v + 1 + 1<<32), api.ErrBehind}, {commitReply(lowest), api.ErrBehind}, {commitReply(highest), api.ErrBehind}, {commitReply(-v - 1), api.ErrBehind},
				{rootReply(m.root(4)), api.ErrReply}, {diffReply(), api.ErrReply},
			} {
				_, e := c.takeChange(cs, with(right, len(cs), r.reply)...)
				c.is(fmt.Sprint("the commit's reply ", r.reply), e, r.want)
			}
			for _, reply := range append(spoilt(right[len(cs)], 1, 2, 64, 255), refusals()...) {
				if !bytes.Equal(reply, right[len(cs)]) {
					c.takeChange(cs, with(right, len(cs), reply)...)
				}
			}
			c.headIs(v, m.root(4))
		}
	}
}

// P21.8: each proof's reply cut, longer, changed in a byte, or of another kind, is refused by what is wrong with it; at a small width some are taken.
func TestSpoiltChanges(t *testing.T) {
	t.Parallel()
	m := entries{keyK: "a", keyQ: "bc", high: "z"}
	cs := []api.Change{put(keyQ, "x"), del(keyK)}
	for _, w := range []int{1, 4, 32} {
		right := m.changeReplies(w, 2, cs...)
		for at := range 2 {
			taken := 0
			c := over(t, fmt.Sprint("P21.8: width ", w), w, 2, m)
			for _, reply := range append(spoilt(right[at], 1, 16, 128), append(refusals(), otherKinds()...)...) {
				if _, e := c.takeChange(cs, with(right, at, reply)...); e == api.OK {
					taken++
					c = over(t, c.promise, w, 2, m)
				}
			}
			if w > 1 && taken > 0 {
				c.fails("%d spoilt replies were taken", taken)
			}
		}
	}
}
