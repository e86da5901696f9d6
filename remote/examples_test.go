package remote_test

import (
	"bytes"
	"encoding/hex"
	"slices"
	"testing"

	"ledger/api"
	"ledger/remote"
)

// digest tells a root from its first bytes in hexadecimal.
func digest(s string) (d api.Digest) {
	b, wrong := hex.DecodeString(s)
	if wrong != nil {
		panic(wrong)
	}
	copy(d[:], b)
	return d
}

// The roots of the document's versions 1 to 3.
var (
	rootOne   = digest("d5f5c4cd")
	rootTwo   = digest("6af6d328")
	rootThree = digest("587a6d0e")
)

// exampleHouse is the ledger of example 4 on the document's page.
func exampleHouse(t *testing.T) *house {
	t.Helper()
	return built(t, 64, 4).commits(put(keyK, "a")).commits(put(keyQ, "bc"))
}

var sevens = bytes.Repeat([]byte{7}, 32)

// Example 1.
func TestExampleNew(t *testing.T) {
	begun(t, "example 1", 4, 2, rootTwo)
	for _, x := range []struct{ w, v int }{{0, 2}, {4, -1}, {3, 2}} {
		if s, e := remote.New(x.w, x.v, rootTwo); s != nil || e != api.ErrArg {
			t.Errorf("example 1: New(%d, %d, R): %v, %v", x.w, x.v, s, e)
		}
	}
}

// Example 2.
func TestExampleGet(t *testing.T) {
	h := exampleHouse(t)
	c := begun(t, "example 2", 4, 2, rootTwo)
	f := c.askGet(keyK)
	if !bytes.Equal(f, slices.Concat([]byte{4}, sevens, []byte{2, 0, 0, 0, 0, 0, 0, 0})) {
		c.fails("AskGet(K): %v", f)
	}
	reply := h.serve(f)[0]
	proof, wrong := h.l.Prove(keyK[:], 2)
	if wrong != nil || !bytes.Equal(reply, append([]byte{0, 0}, proof...)) {
		c.fails("the desk's reply: %v", reply)
	}
	if a, e := c.takeGet(keyK, reply); e != api.OK || !a.Found || string(a.Val) != "a" {
		c.fails("TakeGet(K): %v, %v", a, e)
	}
	_, e := c.takeGet(keyQ, reply)
	c.is("TakeGet(Q)", e, api.ErrRoot)
	_, e = c.takeGet(keyK, []byte{5, 0})
	c.is("TakeGet(K, 5 0)", e, api.ErrServer)
	_, e = c.takeGet(keyK, []byte{5, 0, 0})
	c.is("TakeGet(K, 5 0 0)", e, api.ErrReply)
	_, e = c.takeGet(keyK, nil)
	c.is("TakeGet(K, nil)", e, api.ErrReply)
}

// Example 3.
func TestExampleChange(t *testing.T) {
	h := exampleHouse(t)
	c := begun(t, "example 3", 4, 2, rootTwo)
	cs := []api.Change{del(keyK)}
	frames, e := c.askChange(cs...)
	want := [][]byte{proveFrame(keyK, 2), append([]byte{1, 1, 0, 2}, sevens...)}
	if e != api.OK || !sameBytes(frames, want) {
		c.fails("AskChange: %v, %v", frames, e)
	}
	replies := h.serve(frames...)
	if !bytes.Equal(replies[1], []byte{0, 0, 3, 0, 0, 0, 0, 0, 0, 0}) {
		c.fails("the desk's reply: %v", replies[1])
	}
	_, e = c.takeChange(cs, replies[0], []byte{0, 0, 4, 0, 0, 0, 0, 0, 0, 0})
	c.is("version 4", e, api.ErrBehind)
	c.headIs(2, rootTwo)
	if v, e := c.takeChange(cs, replies...); v != 3 || e != api.OK {
		c.fails("TakeChange: %d, %v", v, e)
	}
	c.headIs(3, rootThree)
}

// Example 4.
func TestExampleNoChange(t *testing.T) {
	c := begun(t, "example 4", 4, 2, rootTwo)
	_, e := c.askChange(put(keyK, ""), del(keyK))
	c.is("put K, delete K", e, api.ErrDup)
	if frames, e := c.askChange(); e != api.OK || !sameBytes(frames, [][]byte{{1, 0, 0}}) {
		c.fails("AskChange(nil): %v, %v", frames, e)
	}
	if v, e := c.takeChange(nil, []byte{0, 0, 3, 0, 0, 0, 0, 0, 0, 0}); v != 3 || e != api.OK {
		c.fails("TakeChange(nil): %d, %v", v, e)
	}
	c.headIs(3, rootTwo)
}

// Examples 5 and 6.
func TestExampleFollow(t *testing.T) {
	h := exampleHouse(t).commits(del(keyK))
	c := begun(t, "example 5", 4, 1, rootOne)
	f, e := c.askMoves(3)
	if e != api.OK || !bytes.Equal(f, []byte{7, 1, 0, 0, 0, 0, 0, 0, 0, 3, 0, 0, 0, 0, 0, 0, 0}) {
		c.fails("AskMoves(3): %v, %v", f, e)
	}
	moves := h.serve(f)[0]
	if !bytes.Equal(moves, slices.Concat([]byte{0, 0, 2, 0, 0, 0, 2}, keyK[:], []byte{1}, keyQ[:], []byte{2, 0, 'b', 'c'})) {
		c.fails("the desk's reply: %v", moves)
	}
	frames, e := c.askFollow(3, moves)
	if e != api.OK || !sameBytes(frames, [][]byte{proveFrame(keyK, 1), proveFrame(keyQ, 1), {3, 3, 0, 0, 0, 0, 0, 0, 0}}) {
		c.fails("AskFollow: %v, %v", frames, e)
	}
	replies := h.serve(frames...)

	six := c.as("example 6")
	_, e = six.askMoves(1)
	six.is("AskMoves(1)", e, api.ErrArg)
	unsorted := diffReply(put(keyQ, "bc"), del(keyK))
	_, e = six.askFollow(3, unsorted)
	six.is("Q, K", e, api.ErrReply)
	_, e = six.takeFollow(3, unsorted, replies...)
	six.is("Q, K", e, api.ErrReply)
	_, e = six.takeFollow(3, moves, with(replies, 2, rootReply(rootTwo))...)
	six.is("another digest", e, api.ErrMismatch)
	six.headIs(1, rootOne)

	if v, e := c.takeFollow(3, moves, replies...); v != 3 || e != api.OK {
		c.fails("TakeFollow: %d, %v", v, e)
	}
	c.headIs(3, rootThree)
}
