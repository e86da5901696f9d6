package remote_test

import (
	"bytes"
	"fmt"
	"testing"

	"ledger/api"
)

// spansAbout tells spans about a map's keys, whose low end may lie above the high one.
func (m entries) spansAbout() (spans [][2]api.Key) {
	keys := append(m.rising(), keyK, api.Key{99}, flipped(keyK, 255))
	for _, lo := range keys {
		for _, hi := range keys {
			spans = append(spans, [2]api.Key{lo, hi})
		}
	}
	return spans
}

// P21.5: AskSpan is the frame of the request span, byte for byte; ErrRange, if the low end is above the high one.
func TestAskSpan(t *testing.T) {
	for _, v := range []int{0, 1, 256, last} {
		c := over(t, "P21.5", 4, v, entries{})
		for _, s := range someMap().spansAbout() {
			lo, hi := s[0], s[1]
			f, e := c.askSpan(lo, hi)
			if bytes.Compare(lo[:], hi[:]) > 0 {
				c.is("low above high", e, api.ErrRange)
				if f != nil {
					c.fails("low above high: %v", f)
				}
				continue
			}
			want := append(append(append([]byte{5}, lo[:]...), hi[:]...), byte(v), byte(v>>8), byte(v>>16), byte(v>>24), 0, 0, 0, 0)
			if e != api.OK || !bytes.Equal(f, want) {
				c.fails("AskSpan(%x, %x): %v, %v", lo, hi, f, e)
			}
		}
	}
}

// P21.6: with the map's own proofs TakeSpan answers the map's entries from lo to hi.
func TestTakeSpan(t *testing.T) {
	t.Parallel()
	for _, w := range []int{1, 2, 3, 4, 5, 16, 31, 32} {
		for _, m := range []entries{{}, {keyK: "a"}, someMap()} {
			c := over(t, fmt.Sprint("P21.6: width ", w), w, w, m)
			for _, s := range m.spansAbout() {
				lo, hi := s[0], s[1]
				list, e := c.takeSpan(lo, hi, proofReply(m.span(w, lo, hi)))
				if bytes.Compare(lo[:], hi[:]) > 0 {
					c.is("low above high", e, api.ErrRange)
					continue
				}
				if e != api.OK || !sameEntries(list, m.between(lo, hi)) {
					c.fails("TakeSpan(%x, %x): %s, %v", lo, hi, some(list), e)
				}
			}
		}
	}
}

// P21.6: the refusals in their order: the range, the reply, the server, and what span.Verify refuses.
func TestTakeSpanRefuses(t *testing.T) {
	m := someMap()
	c := over(t, "P21.6", 4, 2, m)
	right := m.span(4, low, keyK)
	for _, r := range []struct {
		what   string
		lo, hi api.Key
		reply  []byte
		want   api.Errno
	}{
		{"low above high", keyK, low, proofReply(right), api.ErrRange},
		{"low above high, no reply", keyK, low, nil, api.ErrRange},
		{"low above high, a refusal", keyK, low, []byte{5, 0}, api.ErrRange},
		{"no bytes", low, keyK, nil, api.ErrReply},
		{"one byte", low, keyK, []byte{0}, api.ErrReply},
		{"a refusal and more", low, keyK, []byte{5, 0, 0}, api.ErrReply},
		{"a refusal", low, keyK, []byte{5, 0}, api.ErrServer},
		{"no proof", low, keyK, []byte{0, 0}, api.ErrProof},
		{"a proof cut short", low, keyK, proofReply(right[:len(right)-1]), api.ErrProof},
		{"a proof and more", low, keyK, append(proofReply(right), 0), api.ErrProof},
		{"an empty digest", high, high, append(append([]byte{0, 0, 3, 1}, empties[4][255][:]...), loneText(high, "z")...), api.ErrDefault},
		{"another root", low, keyK, proofReply(m.behind(del(low)).span(4, low, keyK)), api.ErrRoot},
		{"nothing there", low, keyK, []byte{0, 0, 0}, api.ErrRoot},
		{"another span", low, high, proofReply(right), api.ErrProof},
		{"a greater width", keyK, keyK, proofReply(m.span(5, keyK, keyK)), api.ErrProof},
		{"a smaller width", keyK, keyK, proofReply(m.span(3, keyK, keyK)), api.ErrRoot},
		{"a key's proof", keyK, keyK, proofReply(m.proof(4, keyK)), api.ErrProof},
	} {
		list, e := c.takeSpan(r.lo, r.hi, r.reply)
		c.is(r.what, e, r.want)
		if len(list) > 0 {
			c.fails("%s: refused with %s", r.what, some(list))
		}
	}
	c.headIs(2, m.root(4))
}

// P21.6: every reply that comes from a right one by a cut, by more bytes or by a changed byte is taken or refused as span.Verify has it.
func TestSpoiltSpans(t *testing.T) {
	t.Parallel()
	for _, w := range []int{1, 4, 32} {
		m := entries{keyK: "a", flipped(keyK, 3): "", flipped(keyK, 40): "bc", high: "z"}
		c := over(t, fmt.Sprint("P21.6: width ", w), w, 7, m)
		for _, s := range [][2]api.Key{{low, high}, {keyK, keyQ}, {keyK, keyK}, {keyQ, keyK}} {
			for _, reply := range append(spoilt(proofReply(m.span(w, s[0], s[1])), 1, 128), append(refusals(), otherKinds()...)...) {
				c.takeSpan(s[0], s[1], reply)
			}
		}
		c.headIs(7, m.root(w))
	}
}
