package remote_test

import (
	"bytes"
	"fmt"
	"testing"

	"ledger/api"
)

// P21.3: AskGet is the frame of the request prove, byte for byte.
func TestAskGet(t *testing.T) {
	for _, v := range []int{0, 1, 2, 255, 256, 65536, last - 1, last} {
		for _, w := range []int{1, 4, 32} {
			c := over(t, "P21.3", w, v, entries{})
			for _, k := range []api.Key{low, keyK, keyQ, high, {31: 1}} {
				f := c.askGet(k)
				if len(f) != 41 || f[0] != 4 || !bytes.Equal(f[1:33], k[:]) || !bytes.Equal(f[33:], []byte{byte(v), byte(v >> 8), byte(v >> 16), byte(v >> 24), 0, 0, 0, 0}) {
					c.fails("AskGet(%x) at version %d: %v", k, v, f)
				}
			}
		}
	}
}

// P21.4: with the map's own proofs TakeGet answers what the map holds, of keys that are there and of others, at every width.
func TestTakeGet(t *testing.T) {
	t.Parallel()
	for w := 1; w <= 32; w++ {
		for _, m := range []entries{{}, {keyK: "a"}, someMap()} {
			c := over(t, fmt.Sprint("P21.4: width ", w), w, w, m)
			for i, k := range m.keysAbout() {
				if w > 4 && w < 32 && i%5 > 0 {
					continue
				}
				a, e := c.takeGet(k, proofReply(m.proof(w, k)))
				if e != api.OK || !sameAnswer(a, m.answer(k)) {
					c.fails("TakeGet(%x): %v, %v, want %v", k, a, e, m.answer(k))
				}
			}
		}
	}
}

// P21.4: the refusals, each by itself and in their order: of the reply, of the server, of the proof's form, of an empty digest that is written out, of the root.
func TestTakeGetRefuses(t *testing.T) {
	m := someMap()
	c := over(t, "P21.4", 4, 2, m)
	right := m.proof(4, keyK)
	x, e := readForm(4, keyK, right)
	if e != api.OK {
		t.Fatal(e)
	}
	other := x
	other.answer.Val = []byte("b")
	at := func(h int) int { // where the digest of a height that the proof gives stands
		n := 1 + 2 + 1 + 32
		for i := range h {
			if x.beside[i] != empties[4][i] {
				n += 32
			}
		}
		return n
	}
	beyond := bytes.Clone(right)
	beyond[at(255)+4] = 1
	default255 := bytes.Clone(right)
	copy(default255[at(255):], empties[4][255][:])
	both := bytes.Clone(default255)
	both[at(255)+31] = 1
	for _, r := range []struct {
		what  string
		reply []byte
		want  api.Errno
	}{
		{"no bytes", nil, api.ErrReply},
		{"one byte", []byte{0}, api.ErrReply},
		{"a refusal and more", append([]byte{5, 0}, right...), api.ErrReply},
		{"a refusal", []byte{5, 0}, api.ErrServer},
		{"a refusal above 255", []byte{0, 1}, api.ErrServer},
		{"an unknown refusal", []byte{255, 255}, api.ErrServer},
		{"no proof", []byte{0, 0}, api.ErrProof},
		{"a proof cut short", proofReply(right[:len(right)-1]), api.ErrProof},
		{"a proof and more", append(proofReply(right), 0), api.ErrProof},
		{"a digest beyond the width", proofReply(beyond), api.ErrProof},
		{"an empty digest", proofReply(default255), api.ErrDefault},
		{"an empty digest with a byte beyond the width", proofReply(both), api.ErrProof},
		{"another value", proofReply(other.raw()), api.ErrRoot},
		{"another key", proofReply(m.proof(4, keyQ)), api.ErrRoot},
		{"another map", proofReply(m.behind(del(keyQ)).proof(4, keyK)), api.ErrRoot},
		{"a greater width", proofReply(m.proof(5, keyK)), api.ErrProof},
		{"a smaller width", proofReply(m.proof(3, keyK)), api.ErrRoot},
		{"another map, of which it is not", proofReply(entries{}.proof(4, keyK)), api.ErrRoot},
		{"a span", proofReply(m.span(4, keyK, keyK)), api.ErrProof},
		{"a commit's reply", commitReply(3), api.ErrProof},
	} {
		a, e := c.takeGet(keyK, r.reply)
		c.is(r.what, e, r.want)
		if a.Found || len(a.Val) > 0 {
			c.fails("%s: refused with %v", r.what, a)
		}
	}
	c.headIs(2, m.root(4))
}

// P21.4: every reply that comes from a right one by a cut, by more bytes or by a changed byte is taken or refused as client.Verify has it, at every width.
func TestSpoiltGets(t *testing.T) {
	t.Parallel()
	for _, w := range []int{1, 2, 4, 31, 32} {
		m := someMap()
		c := over(t, fmt.Sprint("P21.4: width ", w), w, 7, m)
		for _, k := range []api.Key{keyK, {99}} {
			for _, reply := range spoilt(proofReply(m.proof(w, k)), 1, 2, 128, 255) {
				c.takeGet(k, reply)
			}
			for _, reply := range append(refusals(), otherKinds()...) {
				c.takeGet(k, reply)
			}
		}
		c.headIs(7, m.root(w))
	}
}

// P21.4: a proof is taken for the head's root alone, whatever version was asked.
func TestGetBehindAnotherRoot(t *testing.T) {
	m := someMap()
	n := m.behind(put(keyK, "other"))
	for _, w := range []int{4, 32} {
		c := over(t, "P21.4", w, 1, m)
		_, e := c.takeGet(keyK, proofReply(n.proof(w, keyK)))
		c.is("the proof of a later version", e, api.ErrRoot)
		cs := []api.Change{put(keyK, "other")}
		if v, e := c.takeChange(cs, m.changeReplies(w, 1, cs...)...); v != 2 || e != api.OK {
			c.fails("TakeChange: %d, %v", v, e)
		}
		a, e := c.takeGet(keyK, proofReply(n.proof(w, keyK)))
		if e != api.OK || string(a.Val) != "other" {
			c.fails("behind the change: %v, %v", a, e)
		}
		_, e = c.takeGet(keyK, proofReply(m.proof(w, keyK)))
		c.is("the proof of an earlier version", e, api.ErrRoot)
	}
}
