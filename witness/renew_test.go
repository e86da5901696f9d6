package witness_test

import (
	"bytes"
	"fmt"
	"slices"
	"testing"

	"ledger/api"
	"ledger/client"
	"ledger/witness"
)

// P22.9, P22.12: each list's witness, brought up to date behind each batch, is the one of the map behind it, byte for byte: where the batch names none, some or all of its keys, and where its keys lie in neighbours that the witness speaks of.
func TestRenewOfEachListByEachBatch(t *testing.T) {
	t.Parallel()
	m := someMap()
	lists := append(formLists(), m.lists(drawn(31))...)
	for i, cs := range m.batches() {
		w := []int{4, 32, 1}[i%3]
		a, behind := of(t, "P22.9", w, m), m.behind(cs...)
		rawAt := m.raw(w, namedBy(cs)...)
		for j, keys := range lists {
			if len(keys) > 25 && (i+j)%3 > 0 {
				continue
			}
			got, e := a.renew(keys, m.raw(w, keys...), rawAt, batchOf(cs...))
			want := behind.raw(w, keys...)
			if a.is("Renew", e, api.OK); !bytes.Equal(got, want) {
				t.Errorf("P22.12: width %d, batch %d, list %d: %s, want %s", w, i, j, some(got), some(want))
			}
		}
	}
}

// P22.9: keys of the batch that lie in one neighbour, in several, beside one another at every height, or in none.
func TestRenewAtEveryHeight(t *testing.T) {
	t.Parallel()
	m := entries{keyM: "m", keyZ: "z", flipped(keyM, 30): "n"}
	for h := range 256 {
		w := []int{4, 32, 1}[h%3]
		a := of(t, "P22.9", w, m)
		k := flipped(keyM, 255-h)
		in := flipped(k, 255-h/2)
		for _, cs := range [][]api.Change{{put(k, "new")}, {put(k, "new"), put(in, "too")}, {put(in, "too"), del(keyM)}} {
			if in == keyM || in == k {
				cs = cs[:1]
			}
			for _, keys := range [][]api.Key{{keyM}, [][]api.Key{{keyM, keyZ}, {k, flipped(keyZ, 9)}}[h%2]} {
				got, e := a.renew(keys, m.raw(w, keys...), m.raw(w, namedBy(cs)...), batchOf(cs...))
				if want := m.behind(cs...).raw(w, keys...); e != api.OK || !bytes.Equal(got, want) {
					t.Errorf("P22.9: height %d: %s, %v, want %s", h, some(got), e, some(want))
				}
			}
		}
	}
}

// P22.9: one key and one change: what client.Renew answers.
func TestRenewIsTheClients(t *testing.T) {
	m := someMap()
	for _, w := range []int{1, 4, 32} {
		root := m.root(w)
		for i, k := range m.keysAbout() {
			for _, c := range []api.Change{put(keyM, "x"), del(keyM), put(flipped(keyM, 7), "y"), put(k, "own")} {
				if i%4 != w%4 {
					continue
				}
				want, e := client.Renew(w, root, k, m.raw(w, k), m.raw(w, c.Key), c)
				got, f := witness.Renew(w, root, []api.Key{k}, m.raw(w, k), m.raw(w, c.Key), batchOf(c))
				if e != f || !bytes.Equal(got, want) {
					t.Errorf("P22.9: width %d: %s, %v, want %s, %v", w, some(got), f, some(want), e)
				}
			}
		}
	}
}

// P22.9: no key of a list, no change of a batch.
func TestRenewOfNothing(t *testing.T) {
	m := someMap()
	a := of(t, "P22.9", 4, m)
	for _, keys := range formLists() {
		raw := m.raw(4, keys...)
		got, e := a.renew(keys, raw, nil, []byte{0, 0})
		if a.is("the empty batch", e, api.OK); !bytes.Equal(got, raw) {
			t.Errorf("P22.9: the empty batch: %x", got)
		}
		_, e = a.renew(keys, raw, missing, []byte{0, 0})
		a.is("bytes for the empty batch", e, api.ErrProof)
		got, e = a.renew(nil, nil, raw, batchOf(del(keys[0])))
		if len(keys) == 1 {
			if a.is("no key", e, api.OK); len(got) > 0 {
				t.Errorf("P22.9: no key: %x", got)
			}
		}
		_, e = a.renew(nil, missing, raw, batchOf(del(keys[0])))
		a.is("bytes for no key", e, api.ErrProof)
	}
	got, e := a.at(sumOf(32, 9)).renew(nil, nil, nil, []byte{0, 0})
	if a.is("nothing at all", e, api.OK); len(got) > 0 {
		t.Errorf("P22.9: nothing at all: %x", got)
	}
}

// P22.9: the refusals: the list's, the batch's, the kept witness's, the batch's keys' witness's; each ahead of those that come behind it.
func TestRenewRefusals(t *testing.T) {
	m := exampleMap()
	w := 4
	a := of(t, "P22.9", w, m)
	keys, cs := []api.Key{keyB, keyM}, []api.Change{put(keyC, "c"), del(keyK)}
	raw, rawAt, changes := m.raw(w, keys...), m.raw(w, namedBy(cs)...), batchOf(cs...)
	_, e := a.renew(keys, raw, rawAt, changes)
	a.is("nothing wrong", e, api.OK)

	wrong := func(keys []api.Key) map[api.Errno][]byte {
		c := m.claim(w, keys)
		first := c.pieces()[0]
		h := first.to - 1
		if first.from == first.to {
			t.Fatal("no height")
		}
		return map[api.Errno][]byte{
			api.ErrProof:   append(slices.Clone(c.raw()), 0),
			api.ErrDefault: written(c.pieces(), 0, first.with(h, emptySum(w, h))),
			api.ErrRoot:    written(c.pieces(), 0, first.with(h, besides(w, h, 77))),
		}
	}
	keys = []api.Key{keyM, flipped(keyM, 7)}
	raw = m.raw(w, keys...)
	lists, whys := wrongKeys()
	for i, list := range lists {
		for changes := range noBatches() {
			_, e := a.renew(list, []byte{9}, []byte{9}, []byte(changes))
			a.is("the list", e, whys[i])
		}
	}
	for bad, why := range noBatches() {
		for _, one := range [][]byte{raw, nil, {9}, exampleK} {
			for _, two := range [][]byte{rawAt, nil, {9}} {
				_, e := a.renew(keys, one, two, []byte(bad))
				a.is(fmt.Sprintf("the batch %x", bad), e, why)
			}
		}
	}
	for why, one := range wrong(keys) {
		_, e := a.renew(keys, one, rawAt, changes)
		a.is("the kept witness", e, why)
		for _, two := range wrong(namedBy(cs)) {
			_, e = a.renew(keys, one, two, changes)
			a.is("the kept witness ahead of the batch's", e, why)
		}
		_, e = a.renew(keys, one, nil, changes)
		a.is("the kept witness ahead of none", e, why)
	}
	for why, two := range wrong(namedBy(cs)) {
		_, e := a.renew(keys, raw, two, changes)
		a.is("the batch's keys' witness", e, why)
	}
	_, e = a.renew(keys, raw, raw, changes)
	a.is("the kept one twice", e, api.ErrRoot)
	_, e = a.renew(keys, rawAt, rawAt, changes)
	a.is("the batch's twice", e, api.ErrRoot)
	_, e = a.renew(keys, raw, exampleK, changes)
	a.is("one key's", e, api.ErrProof)
}

// P22.9: at width 1 two witnesses that hold need not fit one another: each digest is taken from where the document says, and nothing else is.
func TestRenewByWitnessesThatDoNotFit(t *testing.T) {
	const w = 1
	m := entries{keyK: "k", keyC: "c", keyB: "b", keyM: "m"}
	a := of(t, "P22.9", w, m)
	rnd := drawn(37)
	for i := range 30 {
		keys := shuffled(rnd, []api.Key{keyK, keyB, flipped(keyM, 200), flipped(keyC, 253)})[:1+i%3]
		cs := []api.Change{put(keyC, "new"), del(flipped(keyK, 253)), put(keyM, text(i, 4)), put(flipped(keyZ, 3), "x")}[i%2 : 2+i%3]
		own, at := m.claim(w, keys), m.claim(w, namedBy(cs))
		k, b := own.keys[0], at.keys[0]
		forged := meeting(t, rnd, own, otherAnswer(rnd, k))
		forgedAt := meeting(t, rnd, at, otherAnswer(rnd, b))
		for _, x := range []*claim{own, forged} {
			for _, y := range []*claim{at, forgedAt} {
				_, e := a.renew(keys, x.raw(), y.raw(), batchOf(cs...))
				a.is("Renew", e, api.OK)
			}
		}
	}
}

// P22.11, P22.12, W10: over many batches one behind the other nothing is asked of the ledger but the witness for the batch's keys: the roots and the witnesses that are kept stay those of the ledger.
func TestFollowingALedger(t *testing.T) {
	t.Parallel()
	for _, w := range []int{1, 2, 4, 32} {
		rnd := drawn(41 + w)
		h := begun(t, 4096, w, 64)
		// Few keys: else the disk were soon full of the branches of those that lie close.
		pool := []api.Key{keyK, keyC, flipped(keyK, 254), keyB, flipped(keyB, 9), keyM, flipped(keyM, 60), flipped(keyM, 200), keyZ, {1}, {2}, {3}}
		lists := [][]api.Key{nil, {keyC}, pool[6:8], shuffled(rnd, pool)[:5], append(drawnKeys(rnd, 9), api.Key{77}), shuffled(rnd, pool)}
		root, kept := h.root(0), make([][]byte, len(lists))
		for i, keys := range lists {
			kept[i] = h.makes(0, keys)
		}
		for range 40 {
			if info, err := h.l.Info(); err != nil || info.Used > 2000 {
				h = h.thinned(h.newest())
			}
			cs := drawnChanges(rnd, shuffled(rnd, pool)[:rnd.Intn(6)])
			changes := batchOf(cs...)
			at := h.makes(api.Newest, namedBy(cs))
			next, e := witness.Step(w, root, at, changes)
			if e != api.OK {
				t.Fatalf("P22.12: width %d: Step: %v", w, e)
			}
			for i, keys := range lists {
				if kept[i], e = witness.Renew(w, root, keys, kept[i], at, changes); e != api.OK {
					t.Fatalf("P22.12: width %d, list %d: Renew: %v", w, i, e)
				}
			}
			v := h.commits(cs...)
			if root = h.root(v); root != next {
				t.Fatalf("P22.12: width %d: the root of %d is %x, want %x", w, v, next, root)
			}
			for i, keys := range lists {
				if !bytes.Equal(kept[i], h.makes(v, keys)) {
					t.Fatalf("P22.12: width %d: list %d at %d: %s", w, i, v, some(kept[i]))
				}
			}
		}
	}
}

// P22.11: the witness hangs on the map alone, not on how it came about.
func TestWitnessHangsOnTheMap(t *testing.T) {
	m := someMap()
	one := begun(t, 1900, 4, 8)
	one.commits(m.puts()...)
	other := begun(t, 3900, 4, 1)
	for i, k := range shuffled(drawn(43), m.rising()) {
		other.commits(put(k, "another"), put(api.Key{9, byte(i)}, "gone"))
	}
	other.commits(other.mapOf(api.Newest).to(m)...)
	for _, keys := range m.lists(drawn(47)) {
		a, b := one.makes(api.Newest, keys), other.makes(api.Newest, keys)
		if !bytes.Equal(a, b) {
			t.Errorf("P22.11: %s, and %s", some(a), some(b))
		}
	}
}
