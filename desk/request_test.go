package desk_test

import (
	"bytes"
	"testing"

	"ledger/api"
	"ledger/desk"
)

// ops are kinds of requests and numbers that are none, some of which have the byte of one.
var ops = []int{lowest, -256, -255, -247, -9, -2, -1, 0, 1, 2, 3, 4, 5, 6, 7, 8, 9, 10, 11, 255, 256, 257, 258, 265, 1 << 32, 1<<32 + 9, highest}

var versions = []int{lowest, lowest + 1, -1 << 40, -257, -2, -1, 0, 1, 258, 1 << 30, 1<<32 + 7, highest - 1, highest}

// requestIs asks of both codecs what the chapter says of a request.
func requestIs(t *testing.T, r api.Request) {
	t.Helper()
	want, right := plainFrame(r)
	b, e := desk.EncodeRequest(r)
	if !right {
		if e != api.ErrRequest || b != nil {
			t.Errorf("P20.1: EncodeRequest(%s) = %d bytes, %d, want ErrRequest", some(r), len(b), e)
		}
		return
	}
	if e != api.OK || !bytes.Equal(b, want) {
		t.Errorf("P20.1: EncodeRequest(%s) = %s, %d, want %s", some(r), some(b), e, some(want))
		return
	}
	if back, e := desk.DecodeRequest(b); e != api.OK || !sameRequest(back, had(r)) {
		t.Errorf("P20.3: %s comes back as %s, %d", some(r), some(back), e)
	}
}

// frameIs asks of both codecs what the chapter says of bytes.
func frameIs(t *testing.T, b []byte) {
	t.Helper()
	want, right := plainRequest(b)
	r, e := desk.DecodeRequest(b)
	if !right {
		if e != api.ErrRequest || !sameRequest(r, api.Request{}) {
			t.Errorf("P20.2: DecodeRequest(%s), %d bytes: %s, %d, want ErrRequest", some(b), len(b), some(r), e)
		}
		return
	}
	if e != api.OK || !sameRequest(r, want) {
		t.Errorf("P20.2: DecodeRequest(%s), %d bytes: %s, %d, want %s", some(b), len(b), some(r), e, some(want))
		return
	}
	if back, e := desk.EncodeRequest(r); e != api.OK || !bytes.Equal(back, b) {
		t.Errorf("P20.3: %s comes back as %s, %d", some(b), some(back), e)
	}
}

// P20.1, P20.3: every kind and numbers that are none, with right and wrong bytes in Key and High, whether the kind has them or not.
func TestKeysOfRequests(t *testing.T) {
	for _, op := range ops {
		for _, key := range []int{0, 1, 31, 32, 33, 64, 288} {
			for _, other := range []int{0, 1, 31, 32, 33, 64, 288} {
				r := api.Request{Op: op, Key: []byte(text(1, key)), High: []byte(text(2, other)), Version: 7, Other: 9, Limit: 11, Batch: []byte(text(3, 5))}
				requestIs(t, r)
				r.Version, r.Other, r.Limit, r.Batch = lowest, highest, -1, make([]byte, 12000)
				requestIs(t, r)
			}
		}
	}
}

// P20.1, P20.3: Limit at and beyond its ends, in all kinds.
func TestLimitsOfRequests(t *testing.T) {
	for _, op := range ops {
		for _, limit := range []int{lowest, -1 << 32, -2, -1, 0, 1, 255, 256, 1000, 1 << 31, 1<<32 - 1, 1 << 32, 1<<32 + 1, 1 << 40, highest} {
			requestIs(t, api.Request{Op: op, Key: keyK[:], High: keyQ[:], Version: -1, Limit: limit})
		}
	}
}

// P20.1, P20.3: Version and Other may be any number, in two's complement.
func TestVersionsOfRequests(t *testing.T) {
	for _, op := range ops {
		for _, v := range versions {
			for _, w := range versions {
				requestIs(t, api.Request{Op: op, Key: keyK[:], High: keyQ[:], Version: v, Other: w})
			}
		}
	}
}

// P20.1, P20.3: batches of all lengths about the ends, in all kinds; they are not looked into.
func TestBatchesOfRequests(t *testing.T) {
	for _, op := range ops {
		for _, n := range []int{0, 1, 2, 255, 256, 11998, 11999, 12000, 12001, 65536, 1 << 20} {
			requestIs(t, api.Request{Op: op, Key: keyK[:], High: keyQ[:], Batch: []byte(text(op, n))})
		}
	}
}

// P20.1: the bytes of each kind, written out.
func TestFramesWrittenOut(t *testing.T) {
	k, q := keyK[:], keyQ[:]
	minusTwo := []byte{254, 255, 255, 255, 255, 255, 255, 255}
	for _, c := range []struct {
		r     api.Request
		parts [][]byte
	}{
		{api.Request{Op: 1, Batch: []byte{5, 6}}, [][]byte{{1, 5, 6}}},
		{api.Request{Op: 2, Key: k, Version: 258}, [][]byte{{2}, k, {2, 1, 0, 0, 0, 0, 0, 0}}},
		{api.Request{Op: 3, Version: highest}, [][]byte{{3, 255, 255, 255, 255, 255, 255, 255, 127}}},
		{api.Request{Op: 4, Key: q, Version: lowest}, [][]byte{{4}, q, {0, 0, 0, 0, 0, 0, 0, 128}}},
		{api.Request{Op: 5, Key: k, High: q, Version: -2}, [][]byte{{5}, k, q, minusTwo}},
		{api.Request{Op: 6, Key: q, High: k, Version: -2, Limit: 1<<32 - 2}, [][]byte{{6}, q, k, minusTwo, {254, 255, 255, 255}}},
		{api.Request{Op: 7, Version: 3, Other: -2}, [][]byte{{7, 3, 0, 0, 0, 0, 0, 0, 0}, minusTwo}},
		{api.Request{Op: 8}, [][]byte{{8}}},
		{api.Request{Op: 9}, [][]byte{{9}}},
	} {
		want := bytes.Join(c.parts, nil)
		if b, e := desk.EncodeRequest(c.r); e != api.OK || !bytes.Equal(b, want) {
			t.Errorf("P20.1: EncodeRequest(%+v) = %v, %d, want %v", c.r, b, e, want)
		}
		if r, e := desk.DecodeRequest(want); e != api.OK || !sameRequest(r, c.r) {
			t.Errorf("P20.2: DecodeRequest(%v) = %+v, %d, want %+v", want, r, e, c.r)
		}
	}
}

// P20.2, P20.3: every first byte with every length up to beyond the longest fixed frame: so each kind is cut at every byte and has more bytes.
func TestFramesOfAllLengths(t *testing.T) {
	frameIs(t, nil)
	frameIs(t, []byte{})
	whole := []byte(text(9, 100))
	for op := range 256 {
		whole[0] = byte(op)
		for n := 1; n <= len(whole); n++ {
			frameIs(t, whole[:n])
		}
	}
}

// P20.2: frames of MaxFrame bytes and of more.
func TestLongFrames(t *testing.T) {
	for op := range 256 {
		for _, n := range []int{11999, 12000, 12001, 12002, 65537} {
			b := []byte(text(op, n))
			b[0] = byte(op)
			frameIs(t, b)
		}
	}
}

// P20.2, P20.3: each byte of a frame of each kind changed to all others.
func TestFramesChanged(t *testing.T) {
	for _, b := range [][]byte{commit(put(keyK, "a"), del(keyQ)), get(keyK, -1), root(1), prove(keyQ, 300), span(low, high, 2), scan(keyQ, keyK, -2, 1001), diff(lowest, highest), info(), stop()} {
		frameIs(t, b)
		for i := range b {
			for n := range 256 {
				other := bytes.Clone(b)
				other[i] = byte(n)
				frameIs(t, other)
			}
		}
	}
}

// P20.1 to P20.3: drawn requests and drawn bytes.
func TestDrawnRequests(t *testing.T) {
	rnd := drawn(20)
	sizes := []int{0, 31, 32, 32, 32, 32, 32, 33}
	for range 20000 {
		r := api.Request{Op: rnd.Intn(11), Version: int(rnd.Uint64()), Other: int(rnd.Uint64()), Limit: rnd.Intn(1<<33) - 1<<30}
		r.Key, r.High, r.Batch = make([]byte, sizes[rnd.Intn(8)]), make([]byte, sizes[rnd.Intn(8)]), make([]byte, rnd.Intn(50))
		rnd.Read(r.Key)
		rnd.Read(r.High)
		rnd.Read(r.Batch)
		requestIs(t, r)
		b := make([]byte, []int{1, 9, 17, 41, 73, 77, rnd.Intn(100)}[rnd.Intn(7)])
		rnd.Read(b)
		if len(b) > 0 && rnd.Intn(4) > 0 {
			b[0] %= 11
		}
		frameIs(t, b)
	}
}
