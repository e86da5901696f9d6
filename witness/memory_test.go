package witness_test

import (
	"bytes"
	"math/rand"
	"slices"
	"testing"

	"ledger/api"
	"ledger/witness"
)

// P22.14, R5: the answers are new memory: no two share any, and what is written into them touches nothing else.
func TestAnswersAreNew(t *testing.T) {
	m := someMap()
	for _, keys := range [][]api.Key{{keyM}, m.rising(), {keyZ, keyC, flipped(keyM, 40), keyK}} {
		raw := m.raw(4, keys...)
		was := bytes.Clone(raw)
		one, _ := witness.Verify(4, m.root(4), keys, raw)
		other, _ := witness.Verify(4, m.root(4), keys, raw)
		for i := range one {
			if !sameAnswer(one[i], m.answer(keys[i])) {
				t.Errorf("R5: two values share memory")
			}
			scribble(one[i].Val)
			_ = append(one[i].Val, "behind what is there"...)
		}
		clear(one[:cap(one)])
		if !bytes.Equal(raw, was) {
			t.Errorf("R5: a value shares memory with the witness")
		}
		scribble(raw)
		for i, x := range other {
			if !sameAnswer(x, m.answer(keys[i])) {
				t.Errorf("R5: an answer shares memory with the witness or with another answer")
			}
		}
	}
}

// P22.14, R5: bytes that are handed out are new memory.
func TestBytesAreNew(t *testing.T) {
	const w = 1
	m := someMap()
	h := begun(t, 1900, w, 8)
	h.commits(m.puts()...)
	root, rnd := m.root(w), drawn(71)
	keys := []api.Key{keyM, keyK, keyC}
	raw, proofs, rawAt := m.raw(w, keys...), m.proofs(w, keys...), m.raw(w, keyZ)
	alone := m.proofs(w, keyM)
	changes := batchOf(put(keyZ, "new"))
	forged := meeting(t, rnd, m.claim(w, keys), otherAnswer(rnd, keyK)).raw()
	lists := [][]byte{raw, rawAt, changes, forged, alone[0], proofs[0], proofs[1], proofs[2]}
	was := make([][]byte, len(lists))
	for i, b := range lists {
		was[i] = bytes.Clone(b)
	}
	for what, call := range map[string]func() [][]byte{
		"Gather":        func() [][]byte { b, _ := witness.Gather(w, root, keys, proofs); return [][]byte{b} },
		"Gather of one": func() [][]byte { b, _ := witness.Gather(w, root, keys[:1], alone); return [][]byte{b} },
		"Make":          func() [][]byte { b, _ := witness.Make(h.l, 1, keys); return [][]byte{b} },
		"Make of one":   func() [][]byte { b, _ := witness.Make(h.l, 1, keys[:1]); return [][]byte{b} },
		"Part":          func() [][]byte { b, _ := witness.Part(w, keys, raw, keyC); return [][]byte{b} },
		"Part of one":   func() [][]byte { b, _ := witness.Part(w, keys[:1], alone[0], keyM); return [][]byte{b} },
		"Renew":         func() [][]byte { b, _ := witness.Renew(w, root, keys, raw, rawAt, changes); return [][]byte{b} },
		"Renew by none": func() [][]byte { b, _ := witness.Renew(w, root, keys, raw, nil, []byte{0, 0}); return [][]byte{b} },
		"Clash":         func() [][]byte { b, c, _ := witness.Clash(w, root, keys, raw, forged); return [][]byte{b, c} },
	} {
		one, other := call(), call()
		want := make([][]byte, len(one))
		for i, b := range one {
			if want[i] = bytes.Clone(b); len(b) == 0 {
				t.Errorf("R5: %s answers nothing", what)
			}
		}
		for i, b := range one {
			if !bytes.Equal(b, want[i]) {
				t.Errorf("R5: %s: two answers share memory", what)
			}
			scribble(b)
			_ = append(b, "behind what is there"...)
		}
		if !slices.EqualFunc(lists, was, bytes.Equal) {
			t.Errorf("R5: %s: the answer shares memory with what was handed in", what)
		}
		if !slices.EqualFunc(other, want, bytes.Equal) || !slices.EqualFunc(call(), want, bytes.Equal) {
			t.Errorf("R5: %s: the answer shares memory with another one, or it is kept", what)
		}
	}
}

// R1: nil and empty lists mean the same.
func TestNilAndEmpty(t *testing.T) {
	root := exampleMap().root(4)
	for _, keys := range [][]api.Key{nil, {}} {
		for _, raw := range [][]byte{nil, {}} {
			for _, raws := range [][][]byte{nil, {}} {
				got, e := witness.Gather(4, root, keys, raws)
				if len(got) > 0 || e != api.OK {
					t.Errorf("R1: Gather: %v, %v", got, e)
				}
			}
			a := ask{t, "R1", 4, root}
			_, e := a.verify(keys, raw)
			a.is("Verify", e, api.OK)
			_, e = a.part(keys, raw, keyK)
			a.is("Part", e, api.ErrKey)
			_, e = a.renew(keys, raw, raw, []byte{0, 0})
			a.is("Renew", e, api.OK)
			_, e = a.renew(keys, raw, raw, raw)
			a.is("Renew without a batch", e, api.ErrForm)
			_, e = a.verify([]api.Key{keyK}, raw)
			a.is("Verify of nothing", e, api.ErrProof)
		}
	}
}

// drawnBytes tells bytes that look like a witness now and then.
func drawnBytes(rnd *rand.Rand, like []byte) []byte {
	switch rnd.Intn(4) {
	case 0:
		b := make([]byte, rnd.Intn(400))
		rnd.Read(b)
		return b
	case 1:
		b := make([]byte, rnd.Intn(200))
		for i := range b {
			b[i] = []byte{0, 0, 0, 0, 1, 2, 129, 255}[rnd.Intn(8)]
		}
		return b
	}
	b := bytes.Clone(like)
	for range rnd.Intn(3) {
		if len(b) > 0 {
			b[rnd.Intn(len(b))] ^= 1 << rnd.Intn(8)
		}
	}
	if rnd.Intn(3) == 0 && len(b) > 0 {
		b = slices.Delete(b, rnd.Intn(len(b)), len(b))
	}
	return b
}

// P22.14, R1: drawn bytes, lists and widths: no call panics, each ends, and answers what the plain reading does.
func TestDrawnArguments(t *testing.T) {
	t.Parallel()
	rnd := drawn(73)
	for i := range 900 {
		m := drawnMap(rnd, rnd.Intn(8))
		w := []int{1, 4, 32, 1 + rnd.Intn(32)}[i%4]
		a := of(t, "P22.14", w, m)
		keys, cs := drawnKeys(rnd, 5), drawnBatch(rnd, 4)
		if rnd.Intn(12) == 0 && len(keys) > 0 {
			keys = append(keys, keys[rnd.Intn(len(keys))])
		}
		raw, rawAt, changes := drawnBytes(rnd, m.raw(w, slices.Compact(inOrder(keys))...)), drawnBytes(rnd, m.raw(w, namedBy(cs)...)), drawnBytes(rnd, batchOf(cs...))
		if rnd.Intn(3) > 0 {
			changes = batchOf(cs...)
		}
		raws := m.proofs(w, keys...)
		if len(raws) > 0 {
			raws[rnd.Intn(len(raws))] = drawnBytes(rnd, raws[0])
		}
		a.verify(keys, raw)
		a.part(keys, raw, drawnKey(rnd))
		a.gather(keys, raws)
		a.step(rawAt, changes)
		a.renew(keys, raw, rawAt, changes)
		a.clash(keys, raw, m.raw(w, slices.Compact(inOrder(keys))...))
		witness.Verify(rnd.Intn(99)-33, a.root, keys, raw)
		if raw, err := witness.Make(nil, i, keys); raw != nil || err == nil {
			t.Errorf("P22.7: Make of no ledger: %v, %v", raw, err)
		}
	}
}
