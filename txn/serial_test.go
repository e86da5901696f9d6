package txn_test

import (
	"fmt"
	"testing"

	"ledger/api"
)

// P18.11: write skew: each of two reads what the other one writes.
func TestWriteSkew(t *testing.T) {
	for _, first := range []int{1, 2} {
		r := begun(t, "P18.11: write skew", 400, 2, 4)
		r.commits(put(keyK, "on"), put(keyQ, "on"))
		r.begin()
		r.begin()
		for id := 1; id <= 2; id++ {
			r.reads(id, keyK)
			r.reads(id, keyQ)
		}
		r.write(1, put(keyK, "off"))
		r.write(2, put(keyQ, "off"))
		r.finishes(first, api.OK)
		r.finishes(3-first, api.ErrConflict)
		r.isSerial()
	}
}

// P18.11: lost updates: of many that count one up at the same time the first one finishes; one behind the other all do.
func TestLostUpdates(t *testing.T) {
	r := begun(t, "P18.11: lost updates", 400, 2, 4)
	r.commits(put(keyK, "0"))
	count := func(id int) {
		t.Helper()
		a, err := r.m.Read(id, keyK[:])
		if err != nil {
			t.Fatal(err)
		}
		var n int
		fmt.Sscan(string(a.Val), &n)
		r.reads(id, keyK)
		r.write(id, put(keyK, fmt.Sprint(n+1)))
	}
	finished := 0
	for round := range 5 {
		var ids []int
		for range 6 {
			ids = append(ids, r.begin())
			count(ids[len(ids)-1])
		}
		for i := range ids {
			if e := r.finish(ids[(i+round)%6]); e == api.OK {
				finished++
			}
		}
		id := r.begin()
		count(id)
		r.finishes(id, api.OK)
		finished++
	}
	if a, err := r.l.Get(keyK[:], -1); finished != 10 || err != nil || string(a.Val) != "10" {
		r.fails("%d finished, the count is %q", finished, a.Val)
	}
	r.isSerial()
}

// P18.11: a phantom: a key that comes into a span, or goes from it, also where the reader writes nothing.
func TestPhantoms(t *testing.T) {
	for _, writes := range []bool{false, true} {
		for _, c := range []api.Change{put(key(50), "new"), del(keyK), put(keyK, "other")} {
			r := begun(t, "P18.11: a phantom", 400, 2, 4)
			r.commits(put(keyK, "a"))
			r.begin()
			r.begin()
			r.all(1)
			if writes {
				r.write(1, put(keyQ, "one entry"))
			}
			r.write(2, c)
			r.finishes(2, api.OK)
			r.finishes(1, api.ErrConflict)
			r.isSerial()
		}
	}
}

// part is what one transaction does between its Begin and its Finish.
type part func(r *rig, id int)

// quartets are four transactions that meet.
func quartets() map[string][4]part {
	at := func(i int) api.Key { return key(64 * (i % 4)) }
	var count, ring, ranges, mixed, back [4]part
	for i := range 4 {
		count[i] = func(r *rig, id int) { r.reads(id, keyK); r.write(id, put(keyK, fmt.Sprint(id))) }
		ring[i] = func(r *rig, id int) { r.reads(id, at(i)); r.write(id, put(at(i+1), fmt.Sprint(i))) }
		ranges[i] = func(r *rig, id int) { r.ranges(id, at(0), at(i)); r.write(id, put(at(3-i), "new"), del(at(i))) }
	}
	mixed = [4]part{
		func(r *rig, id int) { r.all(id) },
		func(r *rig, id int) { r.write(id, put(at(0), "blind"), del(at(1))) },
		func(r *rig, id int) { r.write(id, put(at(0), "own")); r.reads(id, at(0)); r.reads(id, at(1)) },
		func(r *rig, id int) { r.reads(id, at(2)); r.write(id, put(at(1), "back"), del(at(0))); r.all(id) },
	}
	back = [4]part{
		func(r *rig, id int) { r.write(id, put(at(0), "there")) },
		func(r *rig, id int) { r.write(id, put(at(0), "0")) },
		func(r *rig, id int) { r.reads(id, at(0)); r.write(id, put(at(2), "saw it")) },
		func(r *rig, id int) { r.reads(id, at(2)); r.reads(id, at(0)); r.write(id, del(at(3))) },
	}
	return map[string][4]part{"one counter": count, "a ring": ring, "spans": ranges, "a mixture": mixed, "there and back": back}
}

// shuffles goes through every order in which four take so many steps each; an order tells whose step is next.
func shuffles(steps int, each func(order []int)) {
	var order []int
	var left [4]int
	for i := range left {
		left[i] = steps
	}
	var step func()
	step = func() {
		if len(order) == 4*steps {
			each(order)
			return
		}
		for i := range left {
			if left[i] > 0 {
				left[i]--
				order = append(order, i)
				step()
				order = order[:len(order)-1]
				left[i]++
			}
		}
	}
	step()
}

// P18.10, P18.11, W4: four transactions interleaved in every order of their Begins and Finishes; what each does comes with its Begin, or with its Finish, or (some orders of all) at a time of its own.
func TestFourInEveryOrder(t *testing.T) {
	for name, four := range quartets() {
		for _, steps := range [][]string{{"begin, act", "finish"}, {"begin", "act, finish"}, {"begin", "act", "finish"}} {
			t.Run(fmt.Sprint(name, steps), func(t *testing.T) {
				t.Parallel()
				whole := begun(t, "", 60, 1, 4)
				whole.commits(put(key(0), "0"), put(key(64), "1"), put(key(128), "2"))
				every := 1
				if len(steps) == 3 {
					every = 997 // of 369600 orders
				}
				seen := 0
				shuffles(len(steps), func(order []int) {
					if seen%every == 0 {
						interleave(t, whole, four, order, steps)
					}
					seen++
				})
				if want := map[int]int{2: 2520, 3: 369600}[len(steps)]; seen != want {
					t.Errorf("%d orders, want %d", seen, want)
				}
			})
		}
	}
}

// interleave lets four transactions take their steps in an order, and asks that what finished is serial.
func interleave(t *testing.T, whole *rig, four [4]part, order []int, steps []string) {
	t.Helper()
	if t.Failed() {
		return
	}
	r := whole.reopened(4)
	r.T, r.promise = t, fmt.Sprintf("P18.11: order %v of %q", order, steps)
	var took, ids [4]int
	finished := 0
	for _, who := range order {
		step := steps[took[who]]
		took[who]++
		if step == "begin" || step == "begin, act" {
			ids[who] = r.begin()
		}
		if step == "act" || step == "begin, act" || step == "act, finish" {
			four[who](r, ids[who])
		}
		if step == "finish" || step == "act, finish" {
			if r.finish(ids[who]) == api.OK {
				finished++
			}
		}
	}
	if finished == 0 || len(r.m.Open()) != 0 {
		r.fails("%d finished, open are %v", finished, r.m.Open())
	}
	r.isSerial()
}

// P18.10 to P18.13, W4: drawn calls of two Managers over one ledger, with commits by both and by the ledger itself, with crashes and losses of power between: every answer is the book's, and all that finished is serial.
func TestDrawn(t *testing.T) {
	for seed := range 80 {
		t.Run(fmt.Sprint(seed), func(t *testing.T) {
			t.Parallel()
			draw(t, seed, 400)
		})
	}
}

// drawnKey tells one of some keys; the last two of them part at bit 9.
func drawnKey(n interface{ Intn(int) int }) api.Key {
	return []api.Key{low, key(64), keyK, keyQ, {200, 1}, {200, 65}, high}[n.Intn(7)]
}

func draw(t *testing.T, seed, steps int) {
	n := drawn(seed)
	one := begun(t, fmt.Sprintf("P18.11: seed %d", seed), 60+n.Intn(500), 1+n.Intn(32), 1+n.Intn(8))
	two := one.beside()
	for range steps {
		r := one
		if n.Intn(3) == 0 {
			r = two
		}
		id := 1 + n.Intn(r.b.given+1)
		if open := r.b.open(); len(open) > 0 && n.Intn(8) > 0 {
			id = open[n.Intn(len(open))]
		}
		c := api.Change{Key: drawnKey(n), Del: n.Intn(3) == 0, Val: []byte(fmt.Sprint(n.Intn(2)))}
		switch n.Intn(12) {
		case 0, 1:
			r.begin()
		case 2, 3, 4:
			r.reads(id, drawnKey(n))
		case 5:
			r.ranges(id, drawnKey(n), drawnKey(n))
		case 6, 7, 8:
			r.write(id, c)
		case 9:
			if n.Intn(4) == 0 {
				r.abort(id)
			} else {
				r.finish(id)
			}
		case 10:
			r.finish(id)
		case 11:
			drawnEvent(one, two, n.Intn(20), c, n.Int())
		}
		if t.Failed() {
			return
		}
	}
	one.holds()
	one.isSerial()
}

// drawnEvent is something that comes from outside: a direct Commit, a crash, or power that goes in a Finish or a Commit.
func drawnEvent(one, two *rig, kind int, c api.Change, number int) {
	one.Helper()
	w := one.b.w
	room := w.pages - w.used - w.price([]api.Change{c})
	switch {
	case room < 0:
		return
	case kind > 3:
		two.commits(c)
		return
	case kind > 2:
		one.d.Crash([]byte{15})
	case kind > 0:
		cs := []api.Change{c}
		pages := w.price(cs)
		one.falls(commitOf(cs), cs, 1+number%(pages+3), fatesOf(number))
	default:
		ready := -1
		for id, d := range one.b.deals {
			if len(d.writes) > 0 && !one.b.conflicts(d) && w.used+w.price(d.writes) <= w.pages && id > ready {
				ready = id
			}
		}
		if ready < 0 {
			return
		}
		writes := one.b.deals[ready].writes
		one.falls(finishOf(ready), writes, 1+number%(w.price(writes)+3), fatesOf(number))
	}
	one.opens(1 + number%8)
	two.l, two.m, two.b, two.acts = one.l, manager(one.T, one.l), newBook(w), map[int][]act{}
}

// fatesOf makes fates out of a number.
func fatesOf(number int) (fates []byte) {
	for i := range 12 {
		fates = append(fates, byte(number>>i))
	}
	return fates
}
