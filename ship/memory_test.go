package ship_test

import (
	"bytes"
	"testing"

	"ledger/api"
	"ledger/ship"
)

// roomy tells the same bytes with spare room behind them, and the whole of that room.
func roomy(b []byte) (front, whole []byte) {
	whole = append(bytes.Clone(b), bytes.Repeat([]byte{201}, 40)...)
	return whole[:len(b)], whole
}

// R5: a stream that is handed in is neither changed nor kept, its spare room included, whether it is taken or refused.
func TestStreamsAreNotKept(t *testing.T) {
	r := begun(t, "R5", 60, 4, 60).history()
	right := r.export(1, -1)
	wrong := r.tells(1, 8)
	wrong.steps[6].sum[0] ^= 1
	for i, stream := range [][]byte{right, wrong.stream(), right[:70], right[1:]} {
		front, whole := roomy(stream)
		was := bytes.Clone(whole)
		head, _ := ship.Peek(front)
		taken, _ := ship.Import(blank(t, 60), 60, front)
		replica := imported(t, "R5", 60, 60, r.export(0, 3))
		newest, _ := ship.Follow(replica.l, front)
		if !bytes.Equal(whole, was) {
			r.fails("stream %d is another one behind the calls", i)
		}
		if (taken != nil) != (i == 0) || (newest != 0) != (i == 0) || (head != ship.Head{}) != (i < 2) {
			r.fails("stream %d: taken %t, followed up to %d, peeked %+v", i, taken != nil, newest, head)
		}
		for j := range whole {
			whole[j] = 99
		}
		if i > 0 {
			continue
		}
		for v := 1; v <= r.last(); v++ {
			other := *r
			other.l = taken
			other.version(v, r.maps[v])
			other.l = replica.l
			other.version(v, r.maps[v])
		}
		if root := r.maps[1].root(4); head.Sum != root {
			r.fails("the head is %+v", head)
		}
	}
}

// R5: what Export answers is new memory: writing into it, into its spare room and behind it changes neither the ledger nor a later answer.
func TestExportsAreNew(t *testing.T) {
	r := begun(t, "R5", 60, 4, 60).history()
	var before []byte
	for range 3 {
		one, two := r.export(0, -1), r.export(0, -1)
		before = bytes.Clone(two)
		for i := range one[:cap(one)] {
			one[:cap(one)][i] = 77
		}
		_ = append(one, "behind"...)
		if !bytes.Equal(two, before) {
			r.fails("two answers share memory")
		}
	}
	r.holds()
	r.commits(put(keyK, "on")).holds()
}

// R5, R6: a stream without spare room and one with it, nil and no bytes: the answers are the same.
func TestSpareRoomSaysNothing(t *testing.T) {
	stream := tell(4, 3, entries{keyK: "a"}, entries{keyK: "a", keyQ: "b"}).stream()
	front, _ := roomy(stream)
	for _, s := range [][]byte{stream, front, stream[:len(stream):len(stream)]} {
		imported(t, "R6", 40, 4, s)
	}
	for _, s := range [][]byte{nil, {}, front[:0]} {
		peekIs(t, "R1", s, ship.Head{}, api.ErrStream)
		importIs(t, "R1", blank(t, 3), 1, s, -1, api.ErrStream)
	}
}
