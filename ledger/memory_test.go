package ledger_test

import (
	"bytes"
	"testing"

	"ledger/api"
)

// scribble writes over all bytes of b and of the room behind it.
func scribble(b []byte) {
	b = b[:cap(b)]
	for i := range b {
		b[i] ^= 0xFF
	}
}

// R5: a batch is left as it was, with the room behind it, and not kept: whoever writes over it changes no version.
func TestBatchesAreLeft(t *testing.T) {
	r := begun(t, "R5", 40, 4, 8)
	cs := []api.Change{put(keyK, "value"), put(keyQ, "")}
	whole := append(raw(cs...), text(1, 50)...)
	was := bytes.Clone(whole)
	b := whole[:len(whole)-50]
	r.preview(b)
	r.commit(b[:20])
	r.commit(b)
	r.commit(b)
	if !bytes.Equal(whole, was) {
		r.fails("a batch was changed")
	}
	scribble(whole)
	r.asks(keyK, keyQ)
	r.open(1)
	r.asks(keyK, keyQ)
}

// R5: keys are left as they were, with the room behind them.
func TestKeysAreLeft(t *testing.T) {
	r := begun(t, "R5", 40, 4, 8)
	r.commits(put(keyK, "value"), put(keyQ, "other"))
	lo, hi := append(keyK[:], text(1, 40)...), append(keyQ[:], text(2, 40)...)
	was, then := bytes.Clone(lo), bytes.Clone(hi)
	for _, n := range []int{0, 31, 32, 33} {
		r.get(lo[:n], -1)
		r.prove(lo[:n], 1)
		r.span(lo[:n], hi[:n], 1)
		r.span(hi[:n], lo[:n], 1)
		r.scan(lo[:n], hi[:n], 0, 7)
	}
	if !bytes.Equal(lo, was) || !bytes.Equal(hi, then) {
		r.fails("a key was changed")
	}
}

// R5: every answer is new memory, its spare room too: whoever writes into it, or behind it, changes nothing, and no two lists of one answer share any.
func TestAnswersAreNew(t *testing.T) {
	r := begun(t, "R5", 100, 4, 4096)
	third := keyOf("0110")
	r.commits(put(keyK, "value"), put(keyQ, "other"))
	r.commits(put(third, ""), put(high, string(text(3, 128))))
	r.commits(del(keyK), put(keyQ, "another"))
	for range 2 {
		for v := 0; v <= 3; v++ {
			for _, k := range []api.Key{keyK, keyQ, third, high} {
				a, _ := r.l.Get(k[:], v)
				scribble(a.Val)
				_ = append(a.Val, text(9, 300)...)
				p, _ := r.l.Prove(k[:], v)
				scribble(p)
				_ = append(p, text(9, 300)...)
				s, _ := r.l.Span(low[:], k[:], v)
				scribble(s)
				_ = append(s, text(9, 300)...)
			}
			list, _, _ := r.l.Scan(low[:], high[:], v, 1000)
			for i := range list {
				list[i].Val = append(list[i].Val, 1, 2, 3)
			}
			for i, x := range list {
				if len(x.Val) < 3 || string(x.Val[:len(x.Val)-3]) != r.m.at(v)[x.Key] {
					r.fails("the lists of one Scan share memory: %d, %q", i, x.Val)
				}
				scribble(x.Val)
			}
			clear(list[:cap(list)])
			for w := 0; w <= 3; w++ {
				cs, _ := r.l.Diff(v, w)
				want := r.m.at(v).diff(r.m.at(w))
				for i := range cs {
					cs[i].Val = append(cs[i].Val, 1, 2, 3)
				}
				for i, c := range cs {
					if string(c.Val[:len(c.Val)-3]) != string(want[i].Val) {
						r.fails("the lists of one Diff share memory: %d, %q", i, c.Val)
					}
					scribble(c.Val)
				}
				clear(cs[:cap(cs)])
			}
		}
		r.asks(keyK, keyQ, third, high)
	}
}

// R5: an Info and a digest that were answered are the caller's own.
func TestInfoIsACopy(t *testing.T) {
	r := begun(t, "R5", 40, 4, 8)
	r.commits(put(keyK, "a"))
	info, _ := r.l.Info()
	info.Sum[0]++
	info.Last = 99
	sum, _ := r.l.Root(-1)
	sum[1]++
	tally := r.l.Tally()
	tally.Held = 7
	r.asks(keyK)
}
