package walk_test

import (
	"fmt"
	"iter"
	"testing"

	"ledger/api"
	"ledger/file"
	"ledger/store"
	"ledger/tree"
	"ledger/walk"
)

// P11.1, P11.3: From answers a Walker for whatever it is given, and looks at nothing; Err is OK ahead of any range.
func TestFromLooksAtNothing(t *testing.T) {
	r := chapter(t, "P11.1")
	dead := chapter(t, "P11.1")
	dead.d.Crash(nil)
	right, wrong := roots(262)
	loads := r.loads()
	for _, s := range []*store.Store{nil, r.s, dead.s} {
		for _, root := range append(right, wrong...) {
			r.quietly(func() {
				for _, k := range []api.Key{keyA, keyC, keyB, keyZ} {
					w := walk.From(s, root, k)
					if w == nil || w.Err() != api.OK {
						t.Fatalf("P11.1: From(root %d): %v", root, w)
					}
					if w.All() == nil || w.Err() != api.OK {
						t.Errorf("P11.3: All() without a range: Err is %v", w.Err())
					}
				}
			})
		}
	}
	if r.loads() != loads {
		t.Errorf("P11.1: From looks at pages")
	}
}

// P11.2: from below all keys, on one, between two, above all.
func TestFromKeys(t *testing.T) {
	r := begun(t, "P11.2", 900)
	base := keyOf("0110100110010110")
	m := entries{base: "a", flipped(base, 0): "b", flipped(base, 1): "c", flipped(base, 254): "d", flipped(base, 255): "", moved(base, 9): "f", keyOf("111"): string(text(3, 128))}
	root := r.update(0, m.puts()...)
	asked := []api.Key{keyA, keyC, keyB, keyZ}
	for k := range m {
		for _, by := range []int64{-1, 0, 1} {
			asked = append(asked, moved(k, by))
		}
		for _, bit := range []int{0, 1, 2, 7, 8, 100, 250} {
			asked = append(asked, flipped(k, bit))
		}
	}
	r.quiet(func() {
		for _, k := range asked {
			list, e := given(walk.From(r.s, root, k))
			if want := m.between(k, keyZ); told(list) != told(want) || e != api.OK {
				t.Errorf("P11.2: from %x: %s, %v, want %s", k, told(list), e, told(want))
			}
			r.asReadFrom(root, k)
		}
	})
}

// P11.1: each range begins anew, also over one and the same iterator, whole or ended early.
func TestRangesBeginAnew(t *testing.T) {
	r := chapter(t, "P11.1")
	w := walk.From(r.s, 261, keyA)
	all := w.All()
	for round := range 4 {
		for _, seq := range []iter.Seq[api.Entry]{all, w.All()} {
			got := ""
			for x := range seq {
				got += string(x.Val)
				if len(got) == round {
					break
				}
			}
			want := "acb"[:round]
			if round == 0 {
				want = "acb"
			}
			if got != want || w.Err() != api.OK {
				t.Errorf("P11.1: round %d: %q, %v, want %q", round, got, w.Err(), want)
			}
		}
	}
}

// P11.1: ranges within one another, over one Walker, over one iterator, over several Walkers.
func TestRangesWithinOneAnother(t *testing.T) {
	r := chapter(t, "P11.1")
	one, other := walk.From(r.s, 261, keyA), walk.From(r.s, 4, keyC)
	all := one.All()
	got := ""
	for x := range all {
		got += string(x.Val) + "("
		for y := range all {
			got += string(y.Val)
			for z := range one.All() {
				got += string(z.Val)
				if string(z.Val) == "c" {
					break
				}
			}
		}
		got += "|"
		for y := range other.All() {
			got += string(y.Val)
		}
		got += ")"
	}
	inner := "(aaccacbac|b)"
	if want := "a" + inner + "c" + inner + "b" + inner; got != want || one.Err() != api.OK || other.Err() != api.OK {
		t.Errorf("P11.1: %q, %v, %v, want %q", got, one.Err(), other.Err(), want)
	}
}

// P11.1: ranges that go on in turns, one step each.
func TestRangesInTurns(t *testing.T) {
	r := chapter(t, "P11.1")
	w := walk.From(r.s, 261, keyA)
	var next [3]func() (api.Entry, bool)
	for i := range next {
		step, stop := iter.Pull(w.All())
		defer stop()
		next[i] = step
	}
	got := ""
	for _, i := range []int{0, 0, 1, 2, 1, 0, 2, 1, 0, 1, 2, 2} {
		x, more := next[i]()
		got += fmt.Sprintf("%d%s%t ", i, x.Val, more)
	}
	if want := "0atrue 0ctrue 1atrue 2atrue 1ctrue 0btrue 2ctrue 1btrue 0false 1false 2btrue 2false "; got != want {
		t.Errorf("P11.1: %q, want %q", got, want)
	}
}

// spoiltTree makes a tree that gives a and c, and then meets a page that is none; one that gives a, c and b and is right; both have the same beginning.
func spoiltTree(t *testing.T, promise string) (r *rig, spoilt, right int) {
	r = begun(t, promise, 40)
	a, c, b := r.leaf(keyOf("00"), "a"), r.leaf(keyOf("01"), "c"), r.leaf(keyOf("1"), "b")
	none := r.forge(api.KindRecord, nil)
	left := r.branch(a, c, 1, 1)
	return r, r.branch(left, none, 2, 1), r.branch(left, b, 2, 1)
}

// P11.2: what was given ahead of a page that is refused has been given; a new range is refused anew, and tells OK until then.
func TestRefusedOnTheWay(t *testing.T) {
	r, spoilt, right := spoiltTree(t, "P11.2")
	w := walk.From(r.s, spoilt, keyA)
	for range 3 {
		got := ""
		for x := range w.All() {
			got += string(x.Val)
			if w.Err() != api.OK {
				t.Errorf("P11.2: Err is %v ahead of the refusal", w.Err())
			}
		}
		if got != "ac" || w.Err() != api.ErrCorrupt {
			t.Errorf("P11.2: %q, %v, want %q, ErrCorrupt", got, w.Err(), "ac")
		}
	}
	for range w.All() {
		break
	}
	if w.Err() != api.OK {
		t.Errorf("P11.3: a range that ended early behind one that was refused: %v", w.Err())
	}
	r.gives(right, keyA, "acb", api.OK)
	r.gives(spoilt, keyOf("11"), "", api.ErrCorrupt)
	r.gives(spoilt, moved(keyOf("1"), -1), "", api.ErrCorrupt)
}

// P11.1: Err tells of the range that did something last: the inner one that was refused, then the outer one that goes on, ends, or is left.
func TestErrOfRangesWithinOneAnother(t *testing.T) {
	r, spoilt, _ := spoiltTree(t, "P11.1")
	w := walk.From(r.s, spoilt, keyA)
	inner := func(when string) {
		t.Helper()
		if _, e := given(w); e != api.ErrCorrupt {
			t.Errorf("P11.1: %s: the inner range tells %v", when, e)
		}
	}
	steps := 0
	for range w.All() {
		if w.Err() != api.OK {
			t.Errorf("P11.1: the outer range has looked at a page, Err is %v", w.Err())
		}
		inner("at an entry")
		steps++
		if steps == 2 {
			break
		}
	}
	if w.Err() != api.OK {
		t.Errorf("P11.3: the outer range was left last: Err is %v", w.Err())
	}
	// The outer range has nothing more to look at: it ends last.
	next := r.s.Next()
	last := r.leaf(keyA, "l")
	w = walk.From(r.s, last, keyA)
	for range w.All() {
		r.rewind(next)
		if _, e := given(w); e != api.ErrPage {
			t.Errorf("P11.1: the inner range of a root that is gone tells %v", e)
		}
		if w.Err() != api.ErrPage {
			t.Errorf("P11.1: Err is %v behind the inner range", w.Err())
		}
	}
	if w.Err() != api.OK {
		t.Errorf("P11.1: the outer range ended last, with nothing more to look at: Err is %v", w.Err())
	}
}

// P11.1: an inner range that is fine and an outer one that is refused: what came last is told, by turns too.
func TestErrInTurns(t *testing.T) {
	r, spoilt, _ := spoiltTree(t, "P11.1")
	w := walk.From(r.s, spoilt, keyA)
	one, stopOne := iter.Pull(w.All())
	defer stopOne()
	two, stopTwo := iter.Pull(w.All())
	expect := func(when string, want api.Errno) {
		t.Helper()
		if w.Err() != want {
			t.Errorf("P11.1: %s: Err is %v, want %v", when, w.Err(), want)
		}
	}
	one()
	one()
	two()
	expect("both run", api.OK)
	one()
	expect("the first was refused", api.ErrCorrupt)
	two()
	expect("the second looked at a page", api.OK)
	one()
	expect("the first has ended long since", api.OK)
	two()
	expect("the second was refused", api.ErrCorrupt)
	three, stopThree := iter.Pull(w.All())
	expect("a third has not begun", api.ErrCorrupt)
	three()
	expect("the third has begun", api.OK)
	given(w)
	expect("a fourth was refused", api.ErrCorrupt)
	stopThree()
	expect("the third was left", api.OK)
	stopTwo()
	expect("the second had ended", api.OK)
	other := walk.From(r.s, spoilt, keyA)
	given(other)
	expect("another Walker's range was refused", api.OK)
	if other.Err() != api.ErrCorrupt {
		t.Errorf("P11.1: the other Walker tells %v", other.Err())
	}
}

// leave goes through a range and leaves it at an entry: by break, continue of a loop around it, return, goto or a panic.
func leave(w *walk.Walker, how, at string) {
	defer func() { recover() }()
around:
	for range 1 {
		for x := range w.All() {
			if string(x.Val) != at {
				continue
			}
			switch how {
			case "break":
				break around
			case "continue":
				continue around
			case "return":
				return
			case "goto":
				goto out
			}
			panic(how)
		}
	}
out:
}

// P11.3: behind the entry at which a loop is left nothing is looked at, and Err is OK.
func TestLeftEarly(t *testing.T) {
	r, spoilt, right := spoiltTree(t, "P11.3")
	for _, root := range []int{spoilt, right} {
		x := r.readFrom(root, keyA, keyZ, highest)
		for _, how := range []string{"break", "continue", "return", "goto", "panic"} {
			for i, at := range []string{"a", "c"} {
				w := walk.From(r.s, root, keyA)
				before := r.loads()
				leave(w, how, at)
				if n := r.loads() - before; n != x.atEntry[i] || w.Err() != api.OK {
					t.Errorf("P11.3: left by %s at %s: %d pages loaded, want %d, Err is %v", how, at, n, x.atEntry[i], w.Err())
				}
				// It was left while another range over it had been refused.
				w = walk.From(r.s, spoilt, keyA)
				for range w.All() {
					given(w)
					break
				}
				if w.Err() != api.OK {
					t.Errorf("P11.3: Err is %v", w.Err())
				}
			}
		}
	}
}

// P11.2: the pages are looked at in their turn: what is spoilt behind an entry that was given is met, what was loaded already is not.
func TestLookedAtInTurn(t *testing.T) {
	whole, _, right := spoiltTree(t, "P11.2")
	whole.flush()
	for page := 2; page <= right; page++ {
		for at, entry := range []string{"a", "c", "b"} {
			r := whole.reopened(0)
			x := whole.readFrom(right, keyA, keyZ, highest)
			w := walk.From(r.s, right, keyA)
			got := ""
			for e := range w.All() {
				if got += string(e.Val); string(e.Val) == entry {
					r.d.Flip(page, 500, 1)
				}
			}
			want, why := "acb", api.OK
			for turn, p := range x.looked {
				if p == page && turn >= x.atEntry[at] {
					want, why = "acb"[:counted(x.atEntry, turn)], api.ErrCorrupt
				}
			}
			if got != want || w.Err() != why {
				t.Errorf("P11.2: page %d spoilt at %q: %q, %v, want %q, %v", page, entry, got, w.Err(), want, why)
			}
		}
	}
}

// counted tells how many of these are no higher than a number.
func counted(list []int, most int) (n int) {
	for _, x := range list {
		if x <= most {
			n++
		}
	}
	return n
}

// P11.2, P11.4: what a loop does between: whatever is staged and flushed is not part of the tree.
func TestLoopStagesAndFlushes(t *testing.T) {
	for _, flush := range []bool{false, true} {
		r := chapter(t, "P11.4")
		root, got := 261, ""
		w := walk.From(r.s, 261, keyA)
		for x := range w.All() {
			got += string(x.Val)
			next, e := tree.Update(r.s, root, []api.Change{put(keyOf("11"), "new"+got), put(keyB, "other"), del(keyC)})
			if e != api.OK {
				t.Fatal(e)
			}
			root = next
			r.leaf(keyOf("111"), "more")
			if flush {
				r.flush()
			}
			r.gives(root, keyA, "aothernew"+got, api.OK)
		}
		if got != "acb" || w.Err() != api.OK {
			t.Errorf("P11.4: flush %t: %q, %v", flush, got, w.Err())
		}
		if list, e := given(w); vals(list) != "acb" || e != api.OK {
			t.Errorf("P11.4: flush %t: once more: %q, %v", flush, vals(list), e)
		}
	}
}

// P11.2: what a loop does between: pages are rewound, the disk crashes, is opened anew, loses its power.
func TestLoopSpoilsTheStore(t *testing.T) {
	for _, c := range []struct {
		name string
		do   func(r *rig)
		why  api.Errno
	}{
		{"rewound", func(r *rig) { r.rewind(2) }, api.ErrPage},
		{"rewound a little", func(r *rig) { r.rewind(4) }, api.ErrPage},
		{"rewound behind what is to come", func(r *rig) { r.rewind(5) }, api.OK},
		{"rewound by others and staged anew", func(r *rig) { r.rewind(4); r.filler(5) }, api.ErrCorrupt},
		{"rewound and staged anew as it was", func(r *rig) { r.rewind(4); r.leaf(keyB, "B") }, api.OK},
		{"crashed", func(r *rig) { r.d.Crash(nil) }, api.ErrStale},
		{"claimed", func(r *rig) { r.d.Claim() }, api.ErrStale},
		{"opened anew", func(r *rig) { file.Open(r.d) }, api.ErrStale},
		{"without power", func(r *rig) { r.d.Arm(1); r.s.Flush(0) }, api.ErrDown},
		{"without power, and claimed", func(r *rig) { r.d.Arm(1); r.s.Flush(0); r.d.Claim() }, api.ErrStale},
	} {
		r := begun(t, "P11.2", 40)
		a, m, b := r.leaf(keyA, "a"), r.leaf(keyOf("01"), "m"), r.leaf(keyB, "b")
		root := r.branch(r.branch(a, m, 1, 1), b, 2, 1)
		for _, at := range []string{"m", "b"} {
			twin := begun(t, "", 40)
			for _, page := range r.pages() {
				twin.forge(int(page[0]), []byte(page[2:]))
			}
			w := walk.From(twin.s, root, keyA)
			got := ""
			for x := range w.All() {
				got += string(x.Val)
				if string(x.Val) == at {
					c.do(twin)
				}
			}
			want, why := "am", c.why
			switch {
			case at == "b": // nothing is looked at behind it
				want, why = "amb", api.OK
			case c.name == "rewound and staged anew as it was":
				want = "amB"
			case c.why == api.OK:
				want = "amb"
			}
			if got != want || w.Err() != why {
				t.Errorf("P11.2: %s at %q: %q, %v, want %q, %v", c.name, at, got, w.Err(), want, why)
			}
		}
	}
}

// P11.2: a page whose number is not below its branch's is told ahead of its load, also of a store that is not live any more.
func TestNumberAheadOfLoad(t *testing.T) {
	r := begun(t, "P11.2", 40)
	a := r.leaf(keyA, "a")
	root := r.branch(a, 5, 1, 1)
	w := walk.From(r.s, root, keyA)
	before := r.loads()
	for range w.All() {
		r.d.Crash(nil)
	}
	if n := r.loads() - before; n != 2 || w.Err() != api.ErrCorrupt {
		t.Errorf("P11.2: %d pages loaded, want 2, Err is %v, want ErrCorrupt", n, w.Err())
	}
}
