package witness_test

import (
	"bytes"
	"fmt"
	"testing"

	"ledger/api"
	"ledger/witness"
)

// noBatches tells bytes that are no batch, and why.
func noBatches() map[string]api.Errno {
	long := func(n int, behind string) []byte {
		return join([]byte{1, 0, 1}, keyK[:], []byte{byte(n), byte(n >> 8)}, []byte(behind))
	}
	var many []api.Change
	for _, k := range manyKeys(65) {
		many = append(many, del(k))
	}
	return map[string]api.Errno{
		"": api.ErrForm, "\x00": api.ErrForm, "\x00\x00\x00": api.ErrForm, "\x01\x00": api.ErrForm, "\x01\x00\x03": api.ErrForm,
		"\x41\x00": api.ErrMany, "\xff\xff": api.ErrMany, string(batchOf(many...)): api.ErrMany,
		string(long(129, "")): api.ErrLong, string(long(128, text(1, 127))): api.ErrForm, string(long(129, text(1, 129))): api.ErrLong, string(long(1, "")): api.ErrForm,
		string(batchOf(del(keyK), put(keyB, "x"), del(keyK))): api.ErrDup, string(append(batchOf(del(keyK)), 0)): api.ErrForm,
		string(batchOf(del(keyK))[:20]): api.ErrForm,
	}
}

// batches tells batches over a map: empty, puts, deletes and both, of keys that are there and that are not, such as take no effect, one of 64 changes, in several orders.
func (m entries) batches() [][]api.Change {
	var same, gone, all, both []api.Change
	for i, k := range m.keysAbout() {
		if val, has := m[k]; has {
			same = append(same, put(k, val))
			all = append(all, del(k))
		} else {
			gone = append(gone, del(k))
		}
		if i%3 == 0 {
			both = append(both, del(k))
		} else {
			both = append(both, put(k, text(i, i*5)))
		}
	}
	var sixtyFour []api.Change
	for i, k := range manyKeys(64) {
		sixtyFour = append(sixtyFour, put(k, text(i, i)))
	}
	return [][]api.Change{
		nil, {put(keyM, "new")}, {put(keyM, "")}, {del(keyM)}, {put(api.Key{5}, "five")}, {del(api.Key{5})}, {del(keyC), put(keyK, "z")},
		{put(flipped(keyM, 254), "x"), del(flipped(keyM, 255)), put(keyM, "y")}, same, gone, all, both[:20], shuffled(drawn(19), both[:20]), sixtyFour, append(shuffled(drawn(23), sixtyFour)[:50], all...),
	}
}

// P22.8, P22.12: the root behind a batch, against the map, the ledger's Preview and its next root.
func TestStepAgainstTheLedger(t *testing.T) {
	t.Parallel()
	for _, w := range []int{1, 4, 32} {
		m := someMap()
		for i, cs := range m.batches() {
			h := begun(t, 4096, w, 100)
			h.commits(m.puts()...)
			raw := h.makes(api.Newest, namedBy(cs))
			a, changes := of(t, "P22.8", w, m), batchOf(cs...)
			next, e := a.step(raw, changes)
			a.is("Step", e, api.OK)
			preview, _, err := h.l.Preview(changes)
			if err != nil || preview != next {
				t.Errorf("P22.8: width %d, batch %d: %x, %v, want %x", w, i, next, err, preview)
			}
			h.commits(cs...)
			if root := h.root(api.Newest); root != next || next != h.mapOf(api.Newest).root(w) {
				t.Errorf("P22.12: width %d, batch %d: %x, want %x", w, i, next, root)
			}
		}
	}
}

// to tells the changes that lead from a map to another one.
func (m entries) to(other entries) (cs []api.Change) {
	for _, k := range m.rising() {
		if _, has := other[k]; !has {
			cs = append(cs, del(k))
		}
	}
	for _, c := range other.puts() {
		if val, has := m[c.Key]; !has || val != string(c.Val) {
			cs = append(cs, c)
		}
	}
	return cs
}

// P22.8: the empty batch leads to the root as it is, whatever that is; only no bytes are its witness.
func TestStepOfNothing(t *testing.T) {
	for _, w := range []int{1, 4, 32} {
		for _, root := range []api.Digest{{}, exampleMap().root(w), sumOf(32, 5)} {
			a := ask{t, "P22.8", w, root}
			for _, raw := range [][]byte{nil, {}} {
				if got, e := a.step(raw, []byte{0, 0}); e != api.OK || got != root {
					t.Errorf("P22.8: %x, %v, want %x", got, e, root)
				}
			}
			for _, raw := range [][]byte{{0}, {2}, make([]byte, 33), exampleK} {
				_, e := a.step(raw, []byte{0, 0})
				a.is("bytes for no key", e, api.ErrProof)
			}
		}
	}
}

// P22.8: bytes that are no batch are told ahead of what is wrong with the witness; then a witness that does not hold for the batch's keys.
func TestStepRefusals(t *testing.T) {
	m := exampleMap()
	for _, w := range []int{4, 32} {
		a := of(t, "P22.8", w, m)
		for changes, why := range noBatches() {
			for _, raw := range [][]byte{nil, {9}, m.raw(w, keyK), m.raw(w, keyK, keyB)} {
				_, e := a.step(raw, []byte(changes))
				a.is(fmt.Sprintf("%x", changes), e, why)
				_, e = a.at(api.Digest{}).step(raw, []byte(changes))
				a.is(fmt.Sprintf("%x", changes), e, why)
			}
		}
		for _, x := range []struct {
			cs  []api.Change
			of  []api.Key
			why api.Errno
		}{
			{[]api.Change{del(keyB)}, []api.Key{keyK}, api.ErrRoot}, {[]api.Change{put(keyC, "c")}, []api.Key{keyK}, api.ErrRoot}, {[]api.Change{put(keyM, "c")}, []api.Key{keyC}, api.ErrRoot},
			{[]api.Change{del(keyB)}, []api.Key{keyB, keyK}, api.ErrProof}, {[]api.Change{del(keyB), del(keyK)}, []api.Key{keyB}, api.ErrProof}, {[]api.Change{del(keyB)}, nil, api.ErrProof},
			{nil, []api.Key{keyB}, api.ErrProof}, {[]api.Change{del(keyB), del(keyC)}, []api.Key{keyC, keyK}, api.ErrProof}, {[]api.Change{del(keyM), del(keyB)}, []api.Key{keyK, keyB}, api.ErrRoot},
		} {
			_, e := a.step(m.raw(w, x.of...), batchOf(x.cs...))
			a.is(fmt.Sprintf("%d changes with the witness of %d other keys", len(x.cs), len(x.of)), e, x.why)
		}
		for _, root := range []api.Digest{{}, sumOf(w, 1), emptySum(w, 256)} {
			_, e := a.at(root).step(m.raw(w, keyK, keyB), batchOf(del(keyK), del(keyB)))
			a.is("another root", e, api.ErrRoot)
		}
	}
}

// P22.8: any claim that holds, an honest one or not, is gone on from; the order of the changes does not matter.
func TestStepOfAnyClaim(t *testing.T) {
	t.Parallel()
	rnd := drawn(29)
	for i := range 120 {
		w := []int{1, 2, 4, 32}[i%4]
		cs := drawnBatch(rnd, 12)
		c := drawnClaim(rnd, w, namedBy(cs))
		a := ask{t, "P22.8", w, c.root()}
		one, e := a.step(c.raw(), batchOf(cs...))
		a.is("Step", e, api.OK)
		other, e := witness.Step(w, a.root, c.raw(), batchOf(shuffled(rnd, cs)...))
		if e != api.OK || one != other {
			t.Errorf("P22.8: in another order: %x, %v, want %x", other, e, one)
		}
		same := c.clone()
		for _, x := range cs {
			same.answers[x.Key] = entries{}.behind(x).answer(x.Key)
		}
		if e := same.root(); len(cs) > 0 && one != e {
			t.Errorf("P22.8: %x, want %x", one, e)
		}
		raw, e := a.renew(namedBy(cs), c.raw(), c.raw(), batchOf(cs...))
		if a.is("Renew of the batch's own keys", e, api.OK); !bytes.Equal(raw, same.raw()) {
			t.Errorf("P22.9: %x, want %x", raw, same.raw())
		}
	}
}
