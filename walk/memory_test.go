package walk_test

import (
	"testing"

	"ledger/api"
	"ledger/walk"
)

// spoil writes into a value and appends to it.
func spoil(val []byte) {
	for i := range val {
		val[i] ^= 255
	}
	spare := append(val, "spare"...)
	for i := range spare[:cap(spare)] {
		spare[:cap(spare)][i] ^= 170
	}
}

// P11.4, P11.12, R5: whoever writes into what was given, or behind it, touches nothing else.
func TestAnswersAreNewMemory(t *testing.T) {
	whole, roots, made := grown(t, "")
	for _, room := range []int{0, 4096} {
		r := whole.reopened(room)
		root := roots[0]
		want := told(made[0].between(keyA, keyZ))
		r.promise = "P11.4"
		for range 3 {
			var list []api.Entry
			for x := range walk.From(r.s, root, keyA).All() {
				list = append(list, api.Entry{Key: x.Key, Val: append([]byte{}, x.Val...)})
				spoil(x.Val)
			}
			if told(list) != want {
				t.Errorf("P11.4: %s, want %s", told(list), want)
			}
		}
		r.promise = "P11.12"
		for range 2 {
			list, _, _ := walk.Scan(r.s, root, keyA, keyZ, 1000)
			if told(list) != want {
				t.Errorf("P11.12: Scan: %s, want %s", told(list), want)
			}
			for i := range list {
				rest := told(list[i+1:])
				spoil(list[i].Val)
				if told(list[i+1:]) != rest {
					t.Errorf("P11.12: Scan: two values share memory")
				}
			}
			_ = append(list, api.Entry{})
			changes, _ := walk.Between(r.s, 0, root)
			if toldChanges(changes) != toldChanges(made[0].puts()) {
				t.Errorf("P11.12: Between: %s", toldChanges(changes))
			}
			for i := range changes {
				rest := toldChanges(changes[i+1:])
				spoil(changes[i].Val)
				if toldChanges(changes[i+1:]) != rest {
					t.Errorf("P11.12: Between: two values share memory")
				}
			}
			x, _ := walk.At(r.s, root, 1)
			spoil(x.Val)
			r.has(root, 1, keyOf("0001"), "b")
		}
		r.differs(roots[1], roots[2], api.OK, made[1].to(made[2])...)
	}
}

// R5: values that ranges within one another give share no memory.
func TestRangesShareNoMemory(t *testing.T) {
	r := chapter(t, "P11.4")
	w := walk.From(r.s, 261, keyA)
	for x := range w.All() {
		was := string(x.Val)
		for y := range w.All() {
			spoil(y.Val)
		}
		if string(x.Val) != was {
			t.Errorf("P11.4: %q has become %q", was, x.Val)
		}
	}
}

// A refused call's other answers are nothing at all.
func TestRefusedAnswersAreNothing(t *testing.T) {
	r, spoilt, _ := spoiltTree(t, "R4")
	if list, more, e := walk.Scan(r.s, spoilt, keyA, keyZ, 1000); list != nil || more || e != api.ErrCorrupt {
		t.Errorf("R4: Scan: %v, %t, %v", list, more, e)
	}
	if list, e := walk.Between(r.s, spoilt, 0); list != nil || e != api.ErrCorrupt {
		t.Errorf("R4: Between: %v, %v", list, e)
	}
	if n, e := walk.Rank(r.s, spoilt, keyZ); n != 0 || e != api.ErrCorrupt {
		t.Errorf("R4: Rank: %d, %v", n, e)
	}
	r.hasNot(spoilt, 2, api.ErrCorrupt)
}
