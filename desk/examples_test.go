package desk_test

import (
	"bytes"
	"testing"

	"ledger/api"
	"ledger/desk"
)

// The rows of the chapter's examples, by their numbers.

func TestExample1(t *testing.T) {
	for _, c := range []struct {
		r    api.Request
		want []byte
	}{
		{api.Request{Op: 3, Version: -1}, []byte{3, 255, 255, 255, 255, 255, 255, 255, 255}},
		{api.Request{Op: 8, Key: []byte("x")}, []byte{8}},
		{api.Request{Op: 2, Key: make([]byte, 31)}, nil},
		{api.Request{Op: 0}, nil},
	} {
		why := api.OK
		if c.want == nil {
			why = api.ErrRequest
		}
		if b, e := desk.EncodeRequest(c.r); e != why || !bytes.Equal(b, c.want) {
			t.Errorf("example 1: EncodeRequest(%+v) = %v, %d, want %v, %d", c.r, b, e, c.want, why)
		}
	}
}

func TestExample2(t *testing.T) {
	if r, e := desk.DecodeRequest([]byte{9}); e != api.OK || !sameRequest(r, api.Request{Op: api.OpStop}) {
		t.Errorf("example 2: %+v, %d, want a stop", r, e)
	}
	for _, b := range [][]byte{{9, 0}, {}, nil, {10}, {3, 1, 2, 3, 4, 5, 6, 7}} {
		if r, e := desk.DecodeRequest(b); e != api.ErrRequest || !sameRequest(r, api.Request{}) {
			t.Errorf("example 2: DecodeRequest(%v) = %+v, %d, want ErrRequest", b, r, e)
		}
	}
	if r, e := desk.DecodeRequest([]byte{1}); e != api.OK || !sameRequest(r, api.Request{Op: api.OpCommit}) {
		t.Errorf("example 2: %+v, %d, want a commit", r, e)
	}
	r := begun(t, "example 2", 16, 4, 8)
	frames := [][]byte{{1}}
	r.repliesAre(1, frames, desk.Serve(r.l, frames, 1), [][]byte{{30, 0}})
}

func TestExample3(t *testing.T) {
	r := begun(t, "example 3", 16, 4, 8)
	frames := [][]byte{{1, 0, 0}}
	r.repliesAre(1, frames, desk.Serve(r.l, frames, 1), [][]byte{{0, 0, 1, 0, 0, 0, 0, 0, 0, 0}})
}

func TestExample4(t *testing.T) {
	r := begun(t, "example 4", 16, 4, 8)
	ask := bytes.Join([][]byte{{2}, bytes.Repeat([]byte{7}, 32), make([]byte, 8)}, nil)
	frames := [][]byte{ask, {1}, {8, 8}, {9}, {8}}
	r.repliesAre(4, frames, desk.Serve(r.l, frames, 4), [][]byte{{0, 0, 0}, {30, 0}, {200, 0}, {0, 0}, {201, 0}})
}

func TestExample5(t *testing.T) {
	r := begun(t, "example 5", 16, 4, 8)
	r.repliesAre(1, nil, desk.Serve(r.l, nil, 1), nil)
	frames := [][]byte{{8}}
	for _, workers := range []int{0, 17} {
		r.repliesAre(workers, frames, desk.Serve(r.l, frames, workers), [][]byte{{1, 0}})
	}
}

func TestExample6(t *testing.T) {
	for _, c := range []struct {
		r    api.Reply
		want []byte
	}{
		{api.Reply{Found: true, Val: []byte("ab")}, []byte{0, 0, 1, 2, 0, 97, 98}},
		{api.Reply{Err: 4, Found: true}, []byte{4, 0}},
		{api.Reply{Val: []byte("ab")}, []byte{0, 0, 0}},
	} {
		if b, e := desk.EncodeReply(2, c.r); e != api.OK || !bytes.Equal(b, c.want) {
			t.Errorf("example 6: EncodeReply(2, %+v) = %v, %d, want %v", c.r, b, e, c.want)
		}
	}
}

func TestExample7(t *testing.T) {
	for _, c := range []struct {
		op   int
		raw  []byte
		want api.Reply
		why  api.Errno
	}{
		{2, []byte{0, 0, 2}, api.Reply{}, api.ErrRequest},
		{9, []byte{0, 0}, api.Reply{}, api.OK},
		{9, []byte{201, 0}, api.Reply{Err: 201}, api.OK},
		{9, []byte{201, 0, 0}, api.Reply{}, api.ErrRequest},
	} {
		if r, e := desk.DecodeReply(c.op, c.raw); e != c.why || !sameReply(r, c.want) {
			t.Errorf("example 7: DecodeReply(%d, %v) = %+v, %d, want %+v, %d", c.op, c.raw, r, e, c.want, c.why)
		}
	}
}
