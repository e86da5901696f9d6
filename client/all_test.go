package client_test

import (
	"fmt"
	"math/rand/v2"
	"slices"
	"testing"

	"ledger/api"
	"ledger/client"
)

// shuffled tells a list and the proofs for it in another order.
func shuffled(rnd *rand.Rand, cs []api.Change, raws [][]byte) ([]api.Change, [][]byte) {
	cs, raws = slices.Clone(cs), slices.Clone(raws)
	rnd.Shuffle(len(cs), func(i, j int) {
		cs[i], cs[j] = cs[j], cs[i]
		raws[i], raws[j] = raws[j], raws[i]
	})
	return cs, raws
}

// leads asks for the root behind a list, in some orders.
func (a ask) leads(m entries, cs ...api.Change) {
	a.Helper()
	rnd := rand.New(rand.NewPCG(uint64(len(cs)), 11))
	want := m.behind(cs...).root(a.w)
	raws := m.raws(a.w, cs...)
	for turn := range 3 {
		if root, e := a.advanceAll(cs, raws); root != want || e != api.OK {
			a.Errorf("%s: width %d: %d changes, order %d: %x, %v, want %x", a.promise, a.w, len(cs), turn, root, e, want)
		}
		if len(cs) < 2 {
			break
		}
		cs, raws = shuffled(rnd, cs, raws)
	}
}

// P13.11: of empty lists the root as it is, whatever it is.
func TestAdvanceAllOfNothing(t *testing.T) {
	for w := 1; w <= 32; w++ {
		for _, root := range []api.Digest{{}, emptySum(w, 256), sumOf(32, 1), {31: 1}} {
			for _, cs := range [][]api.Change{nil, {}} {
				for _, raws := range [][][]byte{nil, {}} {
					if got, e := client.AdvanceAll(w, root, cs, raws); got != root || e != api.OK {
						t.Errorf("P13.11: width %d: %x, %v, want %x", w, got, e, root)
					}
				}
			}
		}
	}
}

// P13.11: of one change what Advance says.
func TestAdvanceAllOfOne(t *testing.T) {
	m := someMap()
	for _, w := range []int{1, 4, 32} {
		a := ask{t, "P13.11", w, m.root(w)}
		for _, c := range someChanges(m) {
			a.leads(m, c)
			one, e1 := client.Advance(w, a.root, m.raw(w, c.Key), c)
			all, e2 := client.AdvanceAll(w, a.root, []api.Change{c}, m.raws(w, c))
			if one != all || e1 != e2 {
				t.Errorf("P13.11: %v: %x, %v; Advance: %x, %v", c, all, e2, one, e1)
			}
		}
	}
}

// P13.11: two keys that part at each height.
func TestAdvanceAllOfTwo(t *testing.T) {
	for bit := range 256 {
		w := []int{1, 2, 4, 32}[bit%4]
		other := flipped(keyM, bit)
		for _, m := range []entries{{}, {keyM: "m", other: "o", keyB: "b"}} {
			a := ask{t, fmt.Sprintf("P13.11: bit %d", bit), w, m.root(w)}
			a.leads(m, put(keyM, "new"), put(other, "one"))
			if bit%16 == 0 || bit == 255 {
				a.leads(m, del(keyM), put(other, "one"))
				a.leads(m, put(keyM, "new"), del(other))
				a.leads(m, del(keyM), del(other))
			}
		}
	}
}

// P13.11, P13.12: many changes, whose keys part high and low, in any order, at many widths.
func TestAdvanceAllOfMany(t *testing.T) {
	m := someMap()
	for _, w := range []int{1, 2, 3, 4, 16, 31, 32} {
		a := ask{t, "P13.11", w, m.root(w)}
		var puts, mixed, deletes []api.Change
		for i, k := range askedOf(m) {
			puts = append(puts, put(k, fmt.Sprint(i)))
			deletes = append(deletes, del(k))
			if i%2 == 0 {
				mixed = append(mixed, del(k))
			} else {
				mixed = append(mixed, put(k, "new"))
			}
		}
		mixed[0].Val = text(1, 300)
		a.leads(m, puts...)
		a.leads(m, deletes...)
		a.leads(m, mixed...)
		a.leads(m, m.puts()...)
		ask{t, "P13.11", w, emptySum(w, 256)}.leads(entries{}, puts...)
	}
}

// P13.11: a list of MaxList changes is right; one more is too many.
func TestAdvanceAllOfTheLongestList(t *testing.T) {
	m, cs, raws := entries{}, []api.Change{}, [][]byte{}
	for i := range api.MaxList {
		k := api.Key{0: byte(i * 7), 15: byte(i >> 8), 31: byte(i)}
		m[k] = fmt.Sprint(i)
		cs, raws = append(cs, put(k, m[k])), append(raws, emptyRaw())
	}
	if len(m) != api.MaxList {
		t.Fatal(len(m))
	}
	if root, e := client.AdvanceAll(1, emptySum(1, 256), cs, raws); root != m.root(1) || e != api.OK {
		t.Errorf("P13.11: %x, %v, want %x", root, e, m.root(1))
	}
	cs, raws = append(cs, put(keyZ, "z")), append(raws, emptyRaw())
	if root, e := client.AdvanceAll(1, emptySum(1, 256), cs, raws); root != (api.Digest{}) || e != api.ErrMany {
		t.Errorf("P13.11: %x, %v, want ErrMany", root, e)
	}
	if root, e := client.AdvanceAll(1, emptySum(1, 256), cs, raws[1:]); root != (api.Digest{}) || e != api.ErrArg {
		t.Errorf("P13.11: %x, %v, want ErrArg", root, e)
	}
}

// P13.11: the order of the refusals: the lists' lengths, what Normal says, the first proof that does not hold.
func TestAdvanceAllRefusals(t *testing.T) {
	const w = 4
	m := someMap()
	long, good := put(keyB, string(text(1, 129))), m.raws(w, put(keyM, ""), put(keyC, ""), put(keyB, ""))
	empty := rawOf(notThere([]int{255}, emptySum(w, 255)))
	over := make([]api.Change, api.MaxList+1)
	three := []api.Change{put(keyM, "1"), del(keyC), put(keyB, "3")}
	for _, c := range []struct {
		name string
		cs   []api.Change
		raws [][]byte
		want api.Errno
	}{
		{"no proofs", three, nil, api.ErrArg},
		{"too few proofs", three, good[:2], api.ErrArg},
		{"too many proofs", three[:2], good, api.ErrArg},
		{"no changes", nil, good, api.ErrArg},
		{"no changes, one proof of nothing", nil, [][]byte{nil}, api.ErrArg},
		{"too few proofs, a long value, one key twice", []api.Change{long, long, three[0]}, good[:2], api.ErrArg},
		{"too many changes and too few proofs", over, good, api.ErrArg},
		{"too many changes, all of one key", over, make([][]byte, len(over)), api.ErrMany},
		{"a long value, one key twice, no proofs that hold", []api.Change{three[0], three[0], long}, [][]byte{nil, nil, nil}, api.ErrLong},
		{"one key twice, no proofs that hold", []api.Change{three[0], three[1], three[0]}, [][]byte{nil, nil, nil}, api.ErrDup},
		{"one key twice, with proofs that hold", []api.Change{three[0], del(keyM)}, [][]byte{good[0], good[0]}, api.ErrDup},
		{"the first one", three, [][]byte{nil, empty, emptyRaw()}, api.ErrProof},
		{"the first one", three, [][]byte{empty, nil, emptyRaw()}, api.ErrDefault},
		{"the first one", three, [][]byte{emptyRaw(), empty, nil}, api.ErrRoot},
		{"the second one", three, [][]byte{good[0], empty, nil}, api.ErrDefault},
		{"the second one", three, [][]byte{good[0], nil, empty}, api.ErrProof},
		{"the second one", three, [][]byte{good[0], emptyRaw(), empty}, api.ErrRoot},
		{"the last one", three, [][]byte{good[0], good[1], empty}, api.ErrDefault},
		{"the last one", three, [][]byte{good[0], good[1], good[0]}, api.ErrRoot},
		{"changed round", three, [][]byte{good[2], good[1], good[0]}, api.ErrRoot},
		{"the first one of a falling list", []api.Change{three[2], three[0], three[1]}, [][]byte{empty, nil, nil}, api.ErrDefault},
		{"a delete with a long Val", []api.Change{three[0], {Key: keyC, Del: true, Val: text(1, 300)}, three[2]}, good, api.OK},
		{"all is right", three, good, api.OK},
	} {
		root, e := ask{t, "P13.11: " + c.name, w, m.root(w)}.advanceAll(c.cs, c.raws)
		if e != c.want || e != api.OK && root != (api.Digest{}) {
			t.Errorf("P13.11: %s: %x, %v, want %v", c.name, root, e, c.want)
		}
	}
	// A root with a byte behind the width is one under which no proof holds.
	far := m.root(w)
	far[w] = 1
	if root, e := client.AdvanceAll(w, far, three, good); root != (api.Digest{}) || e != api.ErrRoot {
		t.Errorf("P13.11: %x, %v, want ErrRoot", root, e)
	}
}

// P13.11: where proofs do not fit one another, the lowest key's says what lies beside both, whatever the order in the list.
func TestAdvanceAllTakesTheLowestKeysNeighbours(t *testing.T) {
	m := someMap()
	told := 0
	for _, height := range []int{2, 3, 30, 100, 200, 255, 256} {
		for _, bit := range []int{255, 254, 250, 200, 100, 10, 1, 0} {
			low, high := keyM, flipped(keyM, bit)
			if bitsOf(low) > bitsOf(high) {
				low, high = high, low
			}
			a := ask{t, fmt.Sprintf("P13.11: bit %d, height %d", bit, height), 1, m.root(1)}
			strange := map[api.Key][]byte{
				low:  m.said(t, 1, low).meets(t, height, bit, false).raw(),
				high: m.said(t, 1, high).meets(t, height, bit, false).raw(),
			}
			cs := []api.Change{put(low, "low"), put(high, "high")}
			plain, _ := a.advanceAll(cs, m.raws(1, cs...))
			for _, raws := range [][][]byte{{strange[low], m.raw(1, high)}, {m.raw(1, low), strange[high]}, {strange[low], strange[high]}} {
				root, e := a.advanceAll(cs, raws)
				again, _ := a.advanceAll([]api.Change{cs[1], cs[0]}, [][]byte{raws[1], raws[0]})
				if e != api.OK || root != again {
					t.Errorf("P13.11: %x, %v; the other way round %x", root, e, again)
				}
				if root != plain {
					told++
				}
			}
		}
	}
	if told < 20 {
		t.Errorf("P13.11: only %d lists with strange proofs lead elsewhere", told)
	}
}
