package desk_test

import (
	"bytes"
	"slices"
	"testing"

	"ledger/api"
	"ledger/desk"
)

// roomy tells the same bytes with spare room behind them, and the whole of that room.
func roomy(b []byte) (front, whole []byte) {
	whole = append(bytes.Clone(b), bytes.Repeat([]byte{201}, 40)...)
	return whole[:len(b)], whole
}

// scribble writes over all bytes of b and of the room behind it.
func scribble(b []byte) {
	b = b[:cap(b)]
	for i := range b {
		b[i] ^= 0xFF
	}
}

// R5: what is handed to EncodeRequest is left as it was and not kept, and the frame is new memory.
func TestRequestsAreLeft(t *testing.T) {
	for op := 0; op <= 10; op++ {
		key, wholeKey := roomy(keyK[:])
		other, wholeHigh := roomy(keyQ[:])
		batch, wholeBatch := roomy([]byte(text(1, 50)))
		wants := [][]byte{bytes.Clone(wholeKey), bytes.Clone(wholeHigh), bytes.Clone(wholeBatch)}
		r := api.Request{Op: op, Key: key, High: other, Batch: batch, Version: 5, Other: 6, Limit: 7}
		one, _ := desk.EncodeRequest(r)
		two, _ := desk.EncodeRequest(r)
		want := bytes.Clone(one)
		scribble(one)
		_ = append(one, "behind"...)
		for i, whole := range [][]byte{wholeKey, wholeHigh, wholeBatch} {
			if !bytes.Equal(whole, wants[i]) {
				t.Errorf("R5: EncodeRequest of kind %d has changed what was handed in, or answers it", op)
			}
			scribble(whole)
		}
		if !bytes.Equal(two, want) {
			t.Errorf("R5: a frame of kind %d is kept or shared", op)
		}
	}
}

// R5: what is handed to DecodeRequest is left as it was and not kept; the lists of its answer are new memory, and no two share any.
func TestFramesAreLeft(t *testing.T) {
	for _, b := range [][]byte{commit(put(keyK, "a")), {1}, get(keyK, 1), prove(keyK, 1), span(keyK, keyQ, 2), scan(keyK, keyQ, 2, 3), span(keyK, keyQ, 2)[:72]} {
		front, whole := roomy(b)
		was := bytes.Clone(whole)
		r, _ := desk.DecodeRequest(front)
		want, _ := plainRequest(bytes.Clone(b))
		lists, wants := [][]byte{r.Key, r.High, r.Batch}, [][]byte{want.Key, want.High, want.Batch}
		for i, l := range lists {
			scribble(l)
			_ = append(l, "behind"...)
			for j := i + 1; j < 3; j++ {
				if !bytes.Equal(lists[j], wants[j]) {
					t.Errorf("R5: two lists of the request of kind %d share memory", r.Op)
				}
			}
		}
		if !bytes.Equal(whole, was) {
			t.Errorf("R5: DecodeRequest of kind %d has changed its frame, or answers it", r.Op)
		}
		r, _ = desk.DecodeRequest(front)
		scribble(whole)
		if !sameRequest(r, want) {
			t.Errorf("R5: DecodeRequest of kind %d has kept its frame", r.Op)
		}
	}
}

// lists tells all byte lists of a reply.
func lists(r api.Reply) [][]byte {
	all := [][]byte{r.Val, r.Raw}
	for _, x := range r.List {
		all = append(all, x.Val)
	}
	for _, c := range r.Changes {
		all = append(all, c.Val)
	}
	return all
}

// R5: what is handed to EncodeReply is left as it was and not kept, and the bytes are new memory.
func TestRepliesAreLeft(t *testing.T) {
	for op := 0; op <= 10; op++ {
		r, want := filled(), filled()
		var wholes [][]byte
		give := func(l *[]byte) {
			front, whole := roomy(*l)
			*l = front
			wholes = append(wholes, whole)
		}
		give(&r.Val)
		give(&r.Raw)
		for i := range r.List {
			give(&r.List[i].Val)
		}
		for i := range r.Changes {
			give(&r.Changes[i].Val)
		}
		r.List = append(r.List, api.Entry{Key: high, Val: []byte("spare")})[:len(r.List)]
		r.Changes = append(r.Changes, api.Change{Key: high, Val: []byte("spare")})[:len(r.Changes)]
		one, _ := desk.EncodeReply(op, r)
		two, _ := desk.EncodeReply(op, r)
		was := bytes.Clone(one)
		scribble(one)
		_ = append(one, "behind"...)
		if !sameReply(r, want) || r.List[:3][2].Key != high || r.Changes[:4][3].Key != high {
			t.Errorf("R5: EncodeReply of kind %d has changed what was handed in", op)
		}
		for _, whole := range wholes {
			if !bytes.Equal(whole[len(whole)-40:], bytes.Repeat([]byte{201}, 40)) {
				t.Errorf("R5: EncodeReply of kind %d has written into spare room", op)
			}
			scribble(whole)
		}
		if !bytes.Equal(two, was) {
			t.Errorf("R5: the bytes of kind %d are kept or shared", op)
		}
	}
}

// R5: what is handed to DecodeReply is left as it was and not kept; the lists of its answer are new memory, and no two share any.
func TestBytesAreLeft(t *testing.T) {
	for op := 1; op <= 9; op++ {
		b, _ := plainBytes(op, filled())
		want := told(op, filled())
		front, whole := roomy(b)
		was := bytes.Clone(whole)
		r, _ := desk.DecodeReply(op, front)
		all, wants := lists(r), lists(settled(want))
		for i, l := range all {
			scribble(l)
			_ = append(l, "behind"...)
			for j := i + 1; j < len(all); j++ {
				if !bytes.Equal(all[j], wants[j]) {
					t.Errorf("R5: two lists of the reply to kind %d share memory", op)
				}
			}
		}
		clear(r.List[:cap(r.List)])
		clear(r.Changes[:cap(r.Changes)])
		if !bytes.Equal(whole, was) {
			t.Errorf("R5: DecodeReply of kind %d has changed its bytes, or answers them", op)
		}
		r, _ = desk.DecodeReply(op, front)
		scribble(whole)
		if !sameReply(r, want) {
			t.Errorf("R5: DecodeReply of kind %d has kept its bytes", op)
		}
	}
}

// R5: the frames that are handed to Serve are left as they were, with the room behind them, and not kept, whether it is refused or not.
func TestServedFramesAreLeft(t *testing.T) {
	r := begun(t, "R5", 120, 4, 40).history()
	frames := slices.Concat(everyRequest(-1), noFrames(), badBatches(), [][]byte{commit(put(keyK, "value"), put(keyQ, "other"))}, everyRequest(9), [][]byte{stop(), commit()})
	for _, workers := range []int{0, 1, 5, 16} {
		p := r.pair(40)
		var mine, wholes, were [][]byte
		for _, f := range frames {
			front, whole := roomy(f)
			mine, wholes, were = append(mine, front), append(wholes, whole), append(were, bytes.Clone(whole))
		}
		mine = append(mine, []byte{99})
		spare := mine[:len(mine)-1]
		if workers == 0 {
			desk.Serve(p.served.l, spare, workers)
		} else {
			p.serve(workers, spare...)
		}
		if string(mine[len(mine)-1]) != "c" || len(mine) != len(frames)+1 {
			r.fails("the room behind the frames was written to")
		}
		for i, whole := range wholes {
			if !bytes.Equal(whole, were[i]) || len(mine[i]) != len(frames[i]) {
				r.fails("%d workers: frame %d was changed", workers, i)
			}
			scribble(whole)
		}
		p.serve(3, everyRequest(-1)...)
	}
}

// R5: the replies are new memory, each its own, with its spare room; writing into them changes neither the ledger nor another reply.
func TestServedRepliesAreNew(t *testing.T) {
	r := begun(t, "R5", 120, 4, 40).history()
	frames := slices.Concat(everyRequest(-1), noFrames(), badBatches(), everyRequest(2), everyRequest(-1), [][]byte{commit(), stop(), info(), info(), nil})
	for _, workers := range []int{0, 1, 5, 16} {
		p := r.pair(40)
		got := desk.Serve(p.served.l, frames, workers)
		want := make([][]byte, len(got))
		for i := range got {
			want[i] = bytes.Clone(got[i])
		}
		for i := range got {
			if !bytes.Equal(got[i], want[i]) {
				r.fails("%d workers: reply %d shares memory with an earlier one", workers, i)
			}
			scribble(got[i])
			_ = append(got[i], "behind"...)
		}
		for i := range got[:cap(got)] {
			got[:cap(got)][i] = nil
		}
		if workers > 0 {
			p.own.commits()
		}
		p.alike()
		p.serve(7, frames...)
	}
}

// R1: nil and empty lists mean the same.
func TestNilAndEmpty(t *testing.T) {
	r := begun(t, "R1", 20, 4, 2)
	for _, frames := range [][][]byte{nil, {}, make([][]byte, 0, 5)} {
		for _, workers := range []int{0, 1, 16} {
			if got := desk.Serve(r.l, frames, workers); len(got) != 0 {
				r.fails("%d replies to no frames", len(got))
			}
		}
	}
	for _, none := range [][]byte{nil, {}} {
		if _, e := desk.DecodeRequest(none); e != api.ErrRequest {
			t.Errorf("R1: DecodeRequest: %d", e)
		}
		if _, e := desk.DecodeReply(9, none); e != api.ErrRequest {
			t.Errorf("R1: DecodeReply: %d", e)
		}
		if b, e := desk.EncodeRequest(api.Request{Op: 1, Batch: none}); e != api.OK || string(b) != "\x01" {
			t.Errorf("R1: EncodeRequest: %v, %d", b, e)
		}
		if b, e := desk.EncodeReply(2, api.Reply{Found: true, Val: none}); e != api.OK || string(b) != "\x00\x00\x01\x00\x00" {
			t.Errorf("R1: EncodeReply: %v, %d", b, e)
		}
	}
}
