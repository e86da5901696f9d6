package witness_test

import (
	"bytes"
	"testing"

	"ledger/api"
	"ledger/ledger"
	"ledger/witness"
)

// M of the examples.
func exampleMap() entries { return entries{keyK: "x", keyB: "y"} }

// up tells the digest of a leaf of M climbed to a height, as bytes.
func up(k api.Key, val string, height int) []byte { return flat(loneSum(4, k, val, height)) }

// The bytes of the examples 1 to 5.
var (
	exampleK = join(found("x"), bitmap(255), up(keyB, "y", 255))
	exampleB = join(found("y"), bitmap(255), up(keyK, "x", 255))
	example2 = join(fork, bitmap(), found("x"), bitmap(), found("y"), bitmap())
	example3 = join(fork, bitmap(255), up(keyB, "y", 255), found("x"), bitmap(), missing, bitmap())
	example4 = join(missing, bitmap(0, 255), up(keyK, "x", 0), up(keyB, "y", 255))
	example5 = join(fork, bitmap(), fork, bitmap(), found("x"), bitmap(), missing, bitmap(), found("y"), bitmap())
)

// exampleRows are the lists of the examples 1 to 6 with their witnesses.
func exampleRows() []struct {
	keys []api.Key
	raw  []byte
} {
	return []struct {
		keys []api.Key
		raw  []byte
	}{
		{[]api.Key{keyK}, exampleK}, {[]api.Key{keyB}, exampleB},
		{[]api.Key{keyK, keyB}, example2}, {[]api.Key{keyB, keyK}, example2},
		{[]api.Key{keyC, keyK}, example3}, {[]api.Key{keyK, keyC}, example3},
		{[]api.Key{keyC}, example4},
		{[]api.Key{keyC, keyK, keyB}, example5}, {[]api.Key{keyB, keyK, keyC}, example5},
		{nil, nil}, {[]api.Key{}, []byte{}},
	}
}

// Examples 1 to 6: the bytes, made by all who make them.
func TestExampleBytes(t *testing.T) {
	m := exampleMap()
	r := created(t, 20, 4, 8)
	r.commit(m.puts()...)
	a := of(t, "the examples", 4, m)
	if r.root(1) != a.root {
		t.Fatalf("the ledger's root is %x, want %x", r.root(1), a.root)
	}
	if len(example2) != 105 {
		t.Errorf("example 2 has %d bytes", len(example2))
	}
	for i, x := range exampleRows() {
		made, err := witness.Make(r.l, 1, x.keys)
		if err != nil || !bytes.Equal(made, x.raw) {
			t.Errorf("row %d: Make: %v, %v, want %v", i, made, err, x.raw)
		}
		got, e := a.gather(x.keys, r.proofs(1, x.keys...))
		if e != api.OK || !bytes.Equal(got, x.raw) || !bytes.Equal(m.raw(4, x.keys...), x.raw) {
			t.Errorf("row %d: Gather: %v, %v, want %v", i, got, e, x.raw)
		}
		a.takes(m, x.keys, x.raw)
		for _, k := range x.keys {
			part, e := a.part(x.keys, x.raw, k)
			if e != api.OK || !bytes.Equal(part, r.proofs(1, k)[0]) {
				t.Errorf("row %d: Part: %v, %v", i, part, e)
			}
		}
	}
	as, e := a.verify([]api.Key{keyB, keyK}, example2)
	if e != api.OK || len(as) != 2 || string(as[0].Val) != "y" || string(as[1].Val) != "x" {
		t.Errorf("example 2: Verify for [B, K]: %v, %v", as, e)
	}
	part, e := a.part([]api.Key{keyC, keyK}, example3, keyC)
	if e != api.OK || !bytes.Equal(part, example4) {
		t.Errorf("example 4: Part of C: %v, %v", part, e)
	}
}

// Examples 6, 7, 10 and 11: what is refused.
func TestExampleRefusals(t *testing.T) {
	m := exampleMap()
	a := of(t, "the examples", 4, m)
	for _, root := range []api.Digest{{}, a.root, sumOf(32, 1)} {
		as, e := a.at(root).verify(nil, nil)
		a.is("6: nothing", e, api.OK)
		if len(as) != 0 {
			t.Errorf("6: %v", as)
		}
		_, e = a.at(root).verify(nil, missing)
		a.is("6: the byte 0", e, api.ErrProof)
	}
	_, e := ask{t, "the examples", 0, a.root}.verify(nil, nil)
	a.is("6: width 0", e, api.ErrArg)

	_, e = a.verify([]api.Key{keyK, keyK}, exampleK)
	a.is("7: twice", e, api.ErrDup)
	var many []api.Key
	for i := range 64 {
		many = append(many, numbered(i))
	}
	_, e = a.verify(append(many, many[5]), exampleK)
	a.is("7: 65 keys", e, api.ErrMany)
	other := a.root
	other[31]++
	_, e = a.at(other).verify([]api.Key{keyK}, exampleK)
	a.is("7: another root", e, api.ErrRoot)

	last := len(example3) - 32
	pair := []api.Key{keyC, keyK}
	a.refused("10: the bit of height 3", pair, with(example3, last, 1<<3), example3, api.ErrProof)
	a.refused("10: E(255)", pair, with(example3, 33, flat(emptySum(4, 255))...), example3, api.ErrDefault)
	a.refused("10: a fifth byte", pair, with(example3, 33+4, 1), example3, api.ErrProof)

	_, e = a.part([]api.Key{keyK, keyB}, example2, keyC)
	a.is("11: Part", e, api.ErrKey)
	_, e = a.gather([]api.Key{keyK}, nil)
	a.is("11: Gather", e, api.ErrArg)
	raw, err := witness.Make(nil, 0, nil)
	if raw != nil || err == nil || err.Error() != "witness at 0: a number that may not be" || ledger.Code(err) != api.ErrArg {
		t.Errorf("11: Make: %v, %v", raw, err)
	}
}

// Examples 8 and 9: the next root and a witness renewed.
func TestExampleBatch(t *testing.T) {
	m := exampleMap()
	a := of(t, "the examples", 4, m)
	cs := []api.Change{put(keyC, "z"), del(keyK)}
	next, e := a.step(example3, batchOf(cs...))
	if want := (entries{keyC: "z", keyB: "y"}).root(4); e != api.OK || next != want {
		t.Errorf("8: %x, %v, want %x", next, e, want)
	}
	next, e = a.step(nil, []byte{0, 0})
	if e != api.OK || next != a.root {
		t.Errorf("8: the empty batch: %x, %v", next, e)
	}
	_, e = a.step(exampleK, batchOf(put(keyC, "z")))
	a.is("8: another key's", e, api.ErrRoot)
	_, e = a.step(nil, nil)
	a.is("8: no batch", e, api.ErrForm)

	got, e := a.renew([]api.Key{keyB}, exampleB, example3, batchOf(cs...))
	if want := join(found("y"), bitmap(255), up(keyC, "z", 255)); e != api.OK || !bytes.Equal(got, want) {
		t.Errorf("9: %v, %v, want %v", got, e, want)
	}
}
