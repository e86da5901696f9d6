package witness_test

import (
	"bytes"
	"math/rand"
	"slices"
	"testing"

	"ledger/api"
	"ledger/client"
)

// meeting draws another claim for the same keys that leads to the same root, and is unlike.
func meeting(t *testing.T, rnd *rand.Rand, c *claim, change func(*claim)) *claim {
	t.Helper()
	root, raw := c.root(), c.raw()
	for range 20000 {
		x := c.clone()
		change(x)
		if x.root() == root && !bytes.Equal(x.raw(), raw) {
			return x
		}
	}
	t.Fatal("no claim that meets was found")
	return nil
}

// otherAnswer changes what is said of a key.
func otherAnswer(rnd *rand.Rand, k api.Key) func(*claim) {
	return func(x *claim) {
		x.answers[k] = api.Answer{Found: true, Val: []byte(text(rnd.Intn(1000), 5+rnd.Intn(5)))}
	}
}

// otherNeighbours changes the digests of the neighbours of a key of these heights.
func otherNeighbours(rnd *rand.Rand, k api.Key, hs ...int) func(*claim) {
	return func(x *claim) {
		for _, h := range hs {
			x.beside[rowBeside(k, h)] = besides(x.w, h, rnd.Intn(2000))
		}
	}
}

// P22.6, P22.11: the witness out of single proofs, in whatever order they stand, is the one of the map.
func TestGatherOfHonestProofs(t *testing.T) {
	t.Parallel()
	m := someMap()
	rnd := drawn(11)
	for _, w := range []int{1, 4, 32} {
		a := of(t, "P22.6", w, m)
		for _, keys := range append(formLists(), m.lists(rnd)...) {
			want := m.raw(w, keys...)
			for range 2 {
				got, e := a.gather(keys, m.proofs(w, keys...))
				if a.is("Gather", e, api.OK); !bytes.Equal(got, want) {
					t.Errorf("P22.6: width %d, %d keys: %s, want %s", w, len(keys), some(got), some(want))
				}
				keys = shuffled(rnd, keys)
			}
		}
	}
}

// P22.6: as many proofs as keys; then the first that is refused is told, as client.Verify refuses it.
func TestGatherRefusals(t *testing.T) {
	m := someMap()
	for _, w := range []int{1, 4, 32} {
		a := of(t, "P22.6", w, m)
		keys := []api.Key{keyZ, keyM, flipped(keyM, 255), keyK, keyC}
		good := m.proofs(w, keys...)
		for n := range 9 {
			_, e := a.gather(keys, slices.Concat(good, good)[:n])
			if want := (map[bool]api.Errno{true: api.ErrArg})[n != len(keys)]; e != want {
				t.Errorf("P22.6: %d proofs for %d keys: %v", n, len(keys), e)
			}
			_, e = a.gather(nil, slices.Concat(good, good)[:n])
			a.is("proofs for no key", e, map[bool]api.Errno{true: api.ErrArg}[n > 0])
		}
		_, e := a.gather(keys[:2], [][]byte{{9}, {9}, {9}})
		a.is("too many, all of them wrong", e, api.ErrArg)
		empty := m.claim(w, keys[:1])
		faults := map[api.Errno][]byte{
			api.ErrProof: {7}, api.ErrRoot: make([]byte, 33),
			api.ErrDefault: written(empty.pieces(), 0, empty.pieces()[0].with(3, emptySum(w, 3))),
		}
		if _, e := client.Verify(w, a.root, keys[0], faults[api.ErrRoot]); e != api.ErrRoot {
			t.Fatalf("width %d: a proof of nothing: %v", w, e)
		}
		for _, at := range []int{0, 2, 4} {
			for first, raw := range faults {
				raws := slices.Clone(good)
				raws[at] = raw
				_, e := a.gather(keys, raws)
				a.is("one proof", e, first)
				for second, other := range faults {
					for behind := at + 1; behind < 5; behind++ {
						both := slices.Clone(raws)
						both[behind] = other
						_, e := a.gather(keys, both)
						a.is("two proofs, the first of them "+first.Error()+", the second "+second.Error(), e, first)
					}
				}
			}
		}
		// The keys in another order than the proofs.
		_, e = a.gather([]api.Key{keyM, keyZ}, good[:2])
		a.is("the other key's proof", e, api.ErrRoot)
		_, e = a.gather([]api.Key{keyM, keyZ}, [][]byte{good[1], good[0]})
		a.is("both in the other order", e, api.OK)
	}
}

// P22.6: proofs that hold, each by itself, and do not fit one another: what the witness says of neighbours that several share is what the lowest key's proof does; it need not lead to the root.
func TestGatherOfProofsThatDoNotFit(t *testing.T) {
	t.Parallel()
	const w = 1
	m := entries{keyK: "k", keyC: "c", keyB: "b", keyM: "m"}
	a := of(t, "P22.6", w, m)
	rnd := drawn(13)
	outcomes := map[api.Errno]int{}
	for range 25 {
		for _, k := range []api.Key{keyC, keyB, keyM} {
			// Another value, or another neighbour, where the other key lies or where both have one.
			for _, change := range []func(*claim){otherAnswer(rnd, k), otherNeighbours(rnd, k, 0, 255-rnd.Intn(3)), otherNeighbours(rnd, k, 10+rnd.Intn(200), 253)} {
				forged := meeting(t, rnd, m.claim(w, []api.Key{k}), change).raw()
				if _, e := client.Verify(w, a.root, k, forged); e != api.OK {
					t.Fatalf("the forged proof does not hold: %v", e)
				}
				_, e := a.gather([]api.Key{k}, [][]byte{forged})
				a.is("alone", e, api.OK)
				keys := []api.Key{k, keyK}
				_, e = a.gather(keys, [][]byte{forged, m.raw(w, keyK)})
				outcomes[e]++
				keys = []api.Key{flipped(k, 255), k, keyB}[:2+rnd.Intn(2)]
				if k == keyB {
					keys = keys[:2]
				}
				raws := m.proofs(w, keys...)
				raws[1] = forged
				_, e = a.gather(keys, raws)
				outcomes[e]++
			}
		}
	}
	if outcomes[api.ErrRoot] == 0 || outcomes[api.OK] == 0 || len(outcomes) != 2 {
		t.Errorf("P22.6: %v", outcomes)
	}
}

// P22.6: of a neighbour that both share the higher key's proof is not asked.
func TestGatherTakesTheLowestKeysNeighbours(t *testing.T) {
	const w = 1
	m := entries{keyK: "k", keyC: "c", keyB: "b"}
	a := of(t, "P22.6", w, m)
	rnd := drawn(17)
	want := m.raw(w, keyK, keyC)
	for i := range 8 {
		forged := meeting(t, rnd, m.claim(w, []api.Key{keyC}), otherNeighbours(rnd, keyC, 1+30*i, 255)).raw()
		for _, keys := range [][]api.Key{{keyK, keyC}, {keyC, keyK}} {
			raws := m.proofs(w, keys...)
			raws[slices.Index(keys, keyC)] = forged
			got, e := a.gather(keys, raws)
			if a.is("Gather", e, api.OK); !bytes.Equal(got, want) {
				t.Errorf("P22.6: %x, want %x", got, want)
			}
		}
		forged = meeting(t, rnd, m.claim(w, []api.Key{keyK}), otherNeighbours(rnd, keyK, 1+30*i, 255)).raw()
		got, e := a.gather([]api.Key{keyC, keyK}, [][]byte{m.raw(w, keyC), forged})
		a.is("Gather", e, api.OK)
		if c, _ := readForm(w, []api.Key{keyK}, forged); !bytes.Equal(got[1:33], bitmap(heightsOf(c)...)) {
			t.Errorf("P22.6: the neighbours are not those of the lowest key: %x", got)
		}
	}
}

// heightsOf tells the heights of the digests that a claim gives, rising.
func heightsOf(c *claim) (hs []int) {
	for row := range c.beside {
		if h := 256 - len(row); h > 0 {
			hs = append(hs, h)
		}
	}
	slices.Sort(hs)
	return hs
}
