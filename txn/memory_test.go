package txn_test

import (
	"bytes"
	"fmt"
	"testing"

	"ledger/api"
)

// roomy tells the same bytes with spare room behind them, and the whole of that room.
func roomy(b []byte) (front, whole []byte) {
	whole = append(bytes.Clone(b), bytes.Repeat([]byte{201}, 40)...)
	return whole[:len(b)], whole
}

// R5: a value that is written is copied: what is handed in is neither kept nor changed, its spare room included.
func TestWrittenValuesAreCopied(t *testing.T) {
	r := begun(t, "R5, P18.6", 40, 4, 4)
	r.begin()
	val, whole := roomy([]byte("value"))
	was := bytes.Clone(whole)
	if err := r.m.Write(1, api.Change{Key: keyK, Val: val}); err != nil {
		t.Fatal(err)
	}
	r.m.Write(1, api.Change{Key: keyQ, Del: true, Val: val})
	r.m.Range(1, low[:], high[:])
	if !bytes.Equal(whole, was) {
		r.fails("Write has changed what was handed in")
	}
	clear(whole)
	if a, err := r.m.Read(1, keyK[:]); err != nil || string(a.Val) != "value" {
		r.fails("Read = %q, %v", a.Val, err)
	}
	if v, err := r.m.Finish(1); v != 1 || err != nil {
		t.Fatal(err)
	}
	if a, err := r.l.Get(keyK[:], 1); err != nil || string(a.Val) != "value" {
		r.fails("Get = %q, %v", a.Val, err)
	}
}

// R5: keys that are handed in are neither kept nor changed: what was asked stands, whatever becomes of their bytes.
func TestKeysAreCopied(t *testing.T) {
	for _, span := range []bool{false, true} {
		r := begun(t, "R5, P18.4, P18.5", 40, 4, 4)
		r.commits(put(keyK, "a"))
		r.begin()
		r.begin()
		lo, wholeLo := roomy(keyK[:])
		hi, wholeHi := roomy(keyK[:])
		was := bytes.Clone(wholeLo)
		for id := 1; id <= 2; id++ {
			if span {
				r.m.Range(id, lo, hi)
			} else {
				r.m.Read(id, lo)
			}
		}
		if !bytes.Equal(wholeLo, was) || !bytes.Equal(wholeHi, was) {
			r.fails("a key that was handed in is another one")
		}
		clear(wholeLo)
		copy(wholeHi, high[:])
		r.commits(put(high, "b"), put(low, "c"))
		if v, err := r.m.Finish(1); v != 2 || err != nil {
			r.fails("nothing that was read has changed: %d, %v", v, err)
		}
		r.m.Commit(raw(put(keyK, "x")))
		if _, err := r.m.Finish(2); !isRefusal(err, "finish", 2, api.ErrConflict) {
			r.fails("what was read has changed: %v", err)
		}
	}
}

// scribble writes into a value, into its spare room, and behind it.
func scribble(val []byte) {
	whole := val[:cap(val)]
	for i := range whole {
		whole[i] = 99
	}
	_ = append(val, "behind"...)
}

// R5: what Read answers is new memory: writing into it changes neither the transaction's writes nor what it keeps of its reads.
func TestAnswersOfReadAreNew(t *testing.T) {
	r := begun(t, "R5, P18.4", 40, 4, 4)
	r.commits(put(keyK, "a"))
	r.begin()
	r.write(1, put(keyQ, "own"))
	for range 3 {
		for k, want := range map[api.Key]string{keyK: "a", keyQ: "own"} {
			a, err := r.m.Read(1, k[:])
			if err != nil || string(a.Val) != want {
				r.fails("Read = %q, %v, want %q", a.Val, err, want)
			}
			scribble(a.Val)
		}
	}
	r.commits(put(key(9), "beside"))
	r.finishes(1, api.OK)
	r.holds()
}

// R5: what Range answers is new memory: no two values share any, and writing into them changes neither the transaction's writes nor what it keeps.
func TestAnswersOfRangeAreNew(t *testing.T) {
	r := begun(t, "R5, P18.5", 60, 4, 4)
	r.commits(put(keyK, "a"), put(key(9), "b"), put(key(200), ""), put(keyQ, "d"))
	r.begin()
	r.write(1, put(keyQ, "own"), put(key(77), "more"), put(key(78), ""))
	want := fmt.Sprint(r.b.sees(r.b.deals[1]).between(low, high))
	for range 3 {
		list, err := r.m.Range(1, low[:], high[:])
		if err != nil || fmt.Sprint(list) != want {
			r.fails("Range = %v, %v", list, err)
		}
		for i := range list {
			before := fmt.Sprint(list[i+1:])
			scribble(list[i].Val)
			if fmt.Sprint(list[i+1:]) != before {
				r.fails("two values share memory")
			}
			list[i].Key = high
		}
		for i := range list[:cap(list)] {
			list[:cap(list)][i] = api.Entry{Key: low, Val: []byte("other")}
		}
		_ = append(list, api.Entry{})
	}
	r.commits()
	r.finishes(1, api.OK)
	r.holds()
}

// R5: what Open answers is new memory.
func TestAnswersOfOpenAreNew(t *testing.T) {
	r := begun(t, "R5, P18.9", 40, 4, 4)
	for range 5 {
		r.begin()
	}
	list := r.m.Open()
	for i := range list[:cap(list)] {
		list[:cap(list)][i] = -7
	}
	r.tells()
	r.finishes(3, api.OK)
	r.tells()
}

// What was asked again and again and told the same is kept once: a Finish does not look at more for it.
func TestAskedAgain(t *testing.T) {
	looks := func(times int) int {
		r := begun(t, "asked again", 60, 4, 4)
		r.commits(put(keyK, "a"), put(keyQ, "b"))
		r.begin()
		for range times {
			r.reads(1, keyK)
			r.all(1)
			r.reads(1, key(77))
			r.ranges(1, keyK, keyK)
		}
		r.commits()
		before := r.l.Tally()
		r.finishes(1, api.OK)
		now := r.l.Tally()
		return now.Hits + now.Misses - before.Hits - before.Misses
	}
	if once, often := looks(1), looks(50); once != often || once == 0 {
		t.Errorf("asked once a Finish looks %d times, asked often %d times", once, often)
	}
}
