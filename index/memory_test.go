package index_test

import (
	"bytes"
	"testing"

	"ledger/api"
	"ledger/index"
)

// scribble writes over all bytes of b and of the room behind it.
func scribble(b []byte) {
	b = b[:cap(b)]
	for i := range b {
		b[i] ^= 0xFF
	}
}

// P15.3, R5: each load is new memory, its spare room too.
func TestLoadsAreNewMemory(t *testing.T) {
	r := of(1, 2, 1)
	one, _ := index.Encode(r)
	two, _ := index.Encode(r)
	scribble(one)
	_ = append(one, text(1, 100)...)
	three, _ := index.Encode(r)
	for _, load := range [][]byte{two, three} {
		if !bytes.Equal(load, laid(r)) {
			t.Errorf("R5: %v, want %v", load, laid(r))
		}
	}
}

// P15.3, R5: a load that is handed in is left as it was, with the room behind it, and not kept.
func TestLoadsAreLeft(t *testing.T) {
	for _, n := range []int{0, 55, 56, 57} {
		for _, r := range []api.Record{of(1, 2, 1), of(0, 2, 1)} {
			whole := append(laid(r), text(2, 40)...)
			was := bytes.Clone(whole)
			got, e := index.Decode(whole[:n])
			if !bytes.Equal(whole, was) {
				t.Errorf("R5: Decode has changed %v into %v", was, whole)
			}
			scribble(whole)
			if e == api.OK && got != r {
				t.Errorf("R5: %+v, want %+v", got, r)
			}
		}
	}
}

// R5: whoever changes a record that was handed in or answered changes nothing in the store.
func TestRecordsAreCopies(t *testing.T) {
	r := begun(t, "R5", 20)
	given := api.Record{Version: 1, Sum: sumOf(1)}
	head := r.added(0, given)
	given.Sum[0]++
	got, _, _ := index.Find(r.s, head, 1)
	got.Sum[0]++
	got.Version = 9
	r.finds(head, 1, 1, api.Record{Version: 1, Sum: sumOf(1)})
	empty, _, _ := index.Find(r.s, 0, 0)
	empty.Sum[0]++
	r.finds(0, 0, 0, emptyRecord(4))
}

// P15.4: what lies on the pages is the same behind all calls, refused or not.
func TestPagesAreLeft(t *testing.T) {
	r := eight(t, "R4")
	pages := func() (all [][]byte) {
		for page := 2; page < 10; page++ {
			_, load, _ := r.s.Load(page)
			all = append(all, load)
		}
		return all
	}
	before := pages()
	for head := range 11 {
		for version := -1; version < 11; version++ {
			index.Find(r.s, head, version)
		}
		index.Bounds(r.s, head)
		index.Add(r.s, head, api.Record{Root: 1})
		index.Add(r.s, head, api.Record{Version: 1, Root: 3, Count: 2})
	}
	for i, load := range pages() {
		if !bytes.Equal(load, before[i]) {
			t.Errorf("R4: page %d has become %v", i+2, load)
		}
	}
}
