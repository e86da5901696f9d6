package remote_test

import (
	"bytes"
	"slices"
	"testing"

	"ledger/api"
)

// P21.14, R5: the frames are new memory, each its own with its spare room: writing into them and behind them touches nothing else.
func TestFramesAreNew(t *testing.T) {
	m := someMap()
	c := over(t, "P21.14", 4, 3, m)
	cs := []api.Change{put(keyQ, "other"), del(keyK), put(api.Key{99}, "")}
	moves := diffReply(del(keyK), put(keyQ, "other"), put(high, ""))
	asks := map[string]func() [][]byte{
		"AskGet":    func() [][]byte { return [][]byte{c.askGet(keyK)} },
		"AskSpan":   func() [][]byte { f, _ := c.askSpan(keyK, keyQ); return [][]byte{f} },
		"AskMoves":  func() [][]byte { f, _ := c.askMoves(9); return [][]byte{f} },
		"AskChange": func() [][]byte { fs, _ := c.askChange(cs...); return fs },
		"AskFollow": func() [][]byte { fs, _ := c.askFollow(9, moves); return fs },
	}
	for what, ask := range asks {
		one, other := ask(), ask()
		want := cloned(one)
		for i := range one {
			if !bytes.Equal(one[i], want[i]) {
				c.fails("%s: two frames share memory", what)
			}
			scribble(one[i])
			_ = append(one[i], "behind what is there"...)
		}
		whole := one[:cap(one)]
		for i := range whole {
			whole[i] = nil
		}
		if !sameBytes(other, want) || !sameBytes(ask(), want) {
			c.fails("%s: the frames share memory with what was answered earlier or is kept", what)
		}
	}
}

// cloned tells copies of all.
func cloned(list [][]byte) (all [][]byte) {
	for _, b := range list {
		all = append(all, bytes.Clone(b))
	}
	return all
}

// P21.14, R5: the value that TakeGet answers is new memory.
func TestAnswersAreNew(t *testing.T) {
	m := someMap()
	c := over(t, "P21.14", 4, 3, m)
	for _, k := range m.rising() {
		reply := proofReply(m.proof(4, k))
		was := bytes.Clone(reply)
		one, _ := c.s.TakeGet(k, reply)
		other, _ := c.s.TakeGet(k, reply)
		scribble(one.Val)
		_ = append(one.Val, "behind"...)
		if !bytes.Equal(reply, was) || !sameAnswer(other, m.answer(k)) {
			c.fails("the value under %x shares memory with the reply or with another answer", k)
		}
		scribble(reply)
		if !sameAnswer(other, m.answer(k)) {
			c.fails("the value under %x is the reply's memory", k)
		}
	}
}

// P21.14, R5: the entries that TakeSpan answers are new memory, and no two values share any.
func TestEntriesAreNew(t *testing.T) {
	m := someMap()
	c := over(t, "P21.14", 4, 3, m)
	reply := proofReply(m.span(4, low, high))
	was := bytes.Clone(reply)
	one, _ := c.s.TakeSpan(low, high, reply)
	other, _ := c.s.TakeSpan(low, high, reply)
	for i := range one {
		if string(one[i].Val) != m[one[i].Key] {
			c.fails("two values share memory")
		}
		scribble(one[i].Val)
		_ = append(one[i].Val, "behind"...)
	}
	clear(one[:cap(one)])
	if !bytes.Equal(reply, was) || !sameEntries(other, m.between(low, high)) {
		c.fails("the entries share memory with the reply or with another answer")
	}
	scribble(reply)
	if !sameEntries(other, m.between(low, high)) {
		c.fails("the entries are the reply's memory")
	}
}

// P21.14, R5: what was handed to a Take that moved the head is not kept: the head stays when it is written over (the couple does so behind every call), and the same replies may stand in several places.
func TestRepliesAreNotKept(t *testing.T) {
	m := someMap()
	c := over(t, "P21.14", 4, 3, m)
	cs := []api.Change{put(keyQ, "other"), del(keyK)}
	replies := m.changeReplies(4, 3, cs...)
	handed := cloned(replies)
	list := []api.Change{put(keyQ, "other"), del(keyK)}
	if v, e := c.s.TakeChange(list, handed); v != 4 || e != api.OK {
		c.fails("TakeChange: %d, %v", v, e)
	}
	if !sameBytes(handed, replies) || list[0].Key != keyQ || string(list[0].Val) != "other" || !list[1].Del {
		c.fails("what was handed in was changed")
	}
	n := m.behind(cs...)
	for _, b := range handed {
		scribble(b)
	}
	scribble(list[0].Val)
	c.headIs(4, n.root(4))

	moves, back := diffReply(n.to(m)...), n.followReplies(4, m)
	handedMoves, handedBack := bytes.Clone(moves), cloned(back)
	if v, e := c.s.TakeFollow(9, handedMoves, handedBack); v != 9 || e != api.OK {
		c.fails("TakeFollow: %d, %v", v, e)
	}
	if !bytes.Equal(moves, handedMoves) || !sameBytes(back, handedBack) {
		c.fails("what was handed in was changed")
	}
	scribble(handedMoves)
	for _, b := range handedBack {
		scribble(b)
	}
	c.headIs(9, m.root(4))

	empty := over(t, "P21.14", 4, 0, entries{})
	one := proofReply(make([]byte, 33))
	if v, e := empty.s.TakeChange(list[:0], [][]byte{commitReply(1)}); v != 1 || e != api.OK {
		empty.fails("TakeChange of nothing: %d, %v", v, e)
	}
	cs = manyPuts(5, 3)
	if v, e := empty.s.TakeChange(cs, append(slices.Repeat([][]byte{one}, 5), commitReply(2))); v != 2 || e != api.OK {
		empty.fails("TakeChange with one reply five times: %d, %v", v, e)
	}
	empty.headIs(2, entries{}.behind(cs...).root(4))
}

// R6, P21.14: the same call answers the same again; nil and empty lists mean the same.
func TestTheSameAgain(t *testing.T) {
	m := someMap()
	for range 3 {
		c := over(t, "R6", 4, 3, m)
		for range 3 {
			c.takeGet(keyK, proofReply(m.proof(4, keyK)))
			c.takeSpan(low, high, proofReply(m.span(4, low, high)))
			c.askChange(del(keyK), put(low, "x"))
			c.takeChange([]api.Change{del(keyK)}, m.changeReplies(4, 4, del(keyK))...)
		}
		c.headIs(3, m.root(4))
		one, e := c.s.AskChange(nil)
		other, f := c.s.AskChange([]api.Change{})
		if e != f || !sameBytes(one, other) {
			c.fails("AskChange of nil and of an empty list: %v, %v", one, other)
		}
		_, e = c.s.TakeChange(nil, nil)
		_, f = c.s.TakeChange([]api.Change{}, [][]byte{})
		if e != f || e != api.ErrReply {
			c.fails("TakeChange without replies: %v, %v", e, f)
		}
	}
}
