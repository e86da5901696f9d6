package audit_test

import (
	"bytes"
	"fmt"
	"slices"
	"testing"

	"ledger/api"
	"ledger/client"
	"ledger/disk"
	"ledger/ledger"
	"ledger/node"
	"ledger/span"
)

// mapSum tells the digest of a map under a row, as P10.2 says.
func (x *reading) mapSum(m entries, row string) api.Digest {
	keys := m.rising()
	switch len(keys) {
	case 0:
		return x.empty(256 - len(row))
	case 1:
		return x.lone(keys[0], m[keys[0]], 256-len(row))
	}
	halves := [2]entries{{}, {}}
	for _, k := range keys {
		halves[bits(k)[len(row)]-'0'][k] = m[k]
	}
	return x.pair(x.mapSum(halves[0], row+"0"), x.mapSum(halves[1], row+"1"))
}

// held is a clean image opened as a ledger, with the maps that it tells.
type held struct {
	*testing.T
	promise string
	x       *reading
	l       *ledger.Ledger
	first   int
	maps    []entries // from the first version on
}

// opened opens a clean image (P17.15): every version from First to Last is there.
func opened(t *testing.T, promise string, image []byte) *held {
	t.Helper()
	x, e := readings(image)
	if e != api.OK {
		t.Fatal(promise, e)
	}
	d, e := disk.Load(image)
	if e != api.OK {
		t.Fatal(promise, e)
	}
	l, err := ledger.Open(d, 8)
	if err != nil {
		t.Fatalf("%s: P17.15: Open: %v", promise, err)
	}
	info, err := l.Info()
	if err != nil || info.First != x.report.First || info.Last != x.report.Last || info.Used != x.report.Mark || info.Width != x.report.Width {
		t.Errorf("%s: P17.15: Info = %+v, %v, want %+v", promise, info, err, x.report)
	}
	h := &held{t, promise, x, l, info.First, nil}
	for v := info.First; v <= info.Last; v++ {
		low := api.Key{}
		all, more, err := l.Scan(low[:], high[:], v, 1000)
		if err != nil || more {
			t.Errorf("%s: P17.15: Scan of version %d: %t, %v", promise, v, more, err)
		}
		m := entries{}
		for _, y := range all {
			m[y.Key] = string(y.Val)
		}
		h.maps = append(h.maps, m)
	}
	return h
}

// roots asks that each root is that of the map (P17.15, W8).
func (h *held) roots() {
	h.Helper()
	for i, m := range h.maps {
		root, err := h.l.Root(h.first + i)
		if want := h.x.mapSum(m, ""); err != nil || root != want {
			h.Errorf("%s: P17.15: Root(%d) = %x, %v, want %x", h.promise, h.first+i, root, err, want)
		}
	}
}

// proofs asks that the proofs for some keys lead to each root and say what the map says, single ones and those of spans (P17.15).
func (h *held) proofs(keys ...api.Key) {
	h.Helper()
	width := h.x.super.Width
	for i, m := range h.maps {
		v := h.first + i
		root, err := h.l.Root(v)
		if err != nil {
			h.Fatal(err)
		}
		for _, k := range keys {
			val, found := m[k]
			p, err := h.l.Prove(k[:], v)
			a, e := client.Verify(width, root, k, p)
			if err != nil || e != api.OK || a.Found != found || string(a.Val) != val {
				h.Errorf("%s: P17.15: Prove(%x, %d): %v, %v, %+v", h.promise, k, v, err, e, a)
			}
			g, err := h.l.Get(k[:], v)
			if err != nil || g.Found != found || string(g.Val) != val {
				h.Errorf("%s: P17.15: Get(%x, %d): %v, %+v", h.promise, k, v, err, g)
			}
		}
		low := api.Key{}
		p, err := h.l.Span(low[:], high[:], v)
		all, e := span.Verify(width, root, low, high, p)
		if err != nil || e != api.OK || len(all) != len(m) {
			h.Errorf("%s: P17.15: Span at %d: %v, %v, %d entries", h.promise, v, err, e, len(all))
		}
		for _, y := range all {
			if val, found := m[y.Key]; !found || val != string(y.Val) {
				h.Errorf("%s: P17.15: Span at %d tells %x", h.promise, v, y.Key)
			}
		}
	}
}

// diffs asks for the differences of neighbours and of the first and the last version (P17.15).
func (h *held) diffs() {
	h.Helper()
	n := len(h.maps)
	for i := range n {
		for _, j := range []int{max(i-1, 0), 0, n - 1} {
			cs, err := h.l.Diff(h.first+j, h.first+i)
			if want := h.maps[j].changes(h.maps[i]); err != nil || !sameChanges(cs, want) {
				h.Errorf("%s: P17.15: Diff(%d, %d): %v, %d changes, want %d", h.promise, h.first+j, h.first+i, err, len(cs), len(want))
			}
		}
	}
}

// sameChanges tells whether two lists of changes are the same.
func sameChanges(a, b []api.Change) bool {
	return slices.EqualFunc(a, b, func(x, y api.Change) bool {
		return x.Key == y.Key && x.Del == y.Del && bytes.Equal(x.Val, y.Val)
	})
}

// goesOn asks that the ledger can be committed to (P17.15).
func (h *held) goesOn() {
	h.Helper()
	newest := h.maps[len(h.maps)-1].rising()
	b := raw(put(keyOf("0110011"), "behind"))
	if len(newest) > 0 {
		b = raw(del(newest[0]), put(keyOf("0110011"), "behind"))
	}
	_, _, early := h.l.Preview(b)
	_, err := h.l.Commit(b)
	for _, err := range []error{early, err} {
		if c := ledger.Code(err); c != api.OK && c != api.ErrFull {
			h.Errorf("%s: P17.15: a commit: %v", h.promise, err)
		}
	}
}

// laidAnew asks P17.17: the used pages are those that are laid for the maps, one version behind the other.
func (h *held) laidAnew(image []byte) {
	h.Helper()
	s := h.x.super
	x := scribes(h.T, s.Pages, s.Width)
	was := entries{}
	for i, m := range h.maps {
		if h.first+i > 0 {
			x.lays(h.first, was.changes(m))
		}
		was = m
	}
	if again := x.d.Image(); !bytes.Equal(image[512:256*s.Mark], again[512:256*s.Mark]) || x.s.Super().Mark != s.Mark {
		h.Errorf("%s: P17.17: the maps lay down other pages", h.promise)
	}
}

// right asks of a clean image all of P17.15 to P17.17.
func right(t *testing.T, promise string, image []byte) {
	t.Helper()
	owned(t, promise, image)
	h := opened(t, promise, image)
	h.roots()
	all := entries{keyA: "", keyC: "", high: ""}
	for _, m := range h.maps {
		for k := range m {
			all[k] = ""
		}
	}
	some := all.rising()
	h.proofs(some[:min(8, len(some))]...)
	h.diffs()
	h.laidAnew(image)
	h.goesOn()
}

// P17.15 to P17.17: of what ledgers and imports lay, at several widths.
func TestCleanMeansRight(t *testing.T) {
	for _, width := range []int{1, 4, 31, 32} {
		t.Run(fmt.Sprint(width), func(t *testing.T) {
			t.Parallel()
			right(t, "P17.15: nothing", committed(t, 16, width))
			right(t, "P17.15: a ledger", committed(t, 40, width, story()...))
			right(t, "P17.15: from 9 on", laid(t, 40, width, 9, story()...))
			right(t, "P17.15: a full disk", laid(t, 22, width, 1, story()...))
			right(t, "P17.15: a long way", laid(t, 600, width, 0, list(put(keyK, "k")), list(put(last, "l")), list(put(keyC, "c")), list(del(last)), list(del(keyC))))
		})
	}
}

// P17.15, P17.17: a version with more changes than a batch may have, and a generation that no commits make, are clean too: whoever made it.
func TestCleanOfStrangers(t *testing.T) {
	t.Parallel()
	var many, gone []api.Change
	for i := range 100 {
		many = append(many, put(keyOf(fmt.Sprintf("%07b", i)), text(i, i%129)))
		if i%3 > 0 {
			gone = append(gone, del(many[i].Key))
		}
	}
	f := forged(t, laid(t, 400, 4, 0, many, gone))
	f.super(func(s *api.Super) { s.Generation = 1 << 39 })
	copy(f.image[256*399:], text(3, 256))
	finds(t, "P17.15", f.image)
	right(t, "P17.15", f.image)
}

// P17.15, W8: digests that meet. At width 1 a leaf is laid anew with another value, or another key, and the digest that is stated: the image is clean, and all of it is right for the maps that it tells.
func TestForgedWithTheSameDigest(t *testing.T) {
	t.Parallel()
	image := laid(t, 40, 1, 0, story()...)
	stated := node.Climb(1, keyD, 0, node.Leaf(1, keyD, []byte("d")), 254)
	met := 0
	for i := range 2000 {
		k, val := keyD, text(i, 2)
		if i%2 == 1 {
			k = keyOf(fmt.Sprintf("01%010b", i))
		}
		if node.Climb(1, k, 0, node.Leaf(1, k, []byte(val)), 254) != stated {
			continue
		}
		met++
		f := forged(t, image)
		f.layLeaf(15, k, val)
		if met < 6 {
			finds(t, "P17.15: digests meet", f.image)
			right(t, "P17.15: digests meet", f.image)
		}
		// and another one within the same digest
		f.record(18, func(r *api.Record) { r.Count = 2 })
		finds(t, "P17.5: digests meet", f.image, find(18, api.ErrLink))
	}
	if met < 3 {
		t.Errorf("only %d digests meet", met)
	}
}

// P17.15: at width 1 most lone leaves have the empty root's digest: that a map is empty is told by its page.
func TestEmptyByItsPage(t *testing.T) {
	t.Parallel()
	empty := node.Empty(1, 256)
	for i := range 64 {
		k := keyOf(fmt.Sprintf("%06b", i))
		image := laid(t, 16, 1, 0, list(put(k, "x")), list(del(k)))
		finds(t, "P17.15", image)
		f := forged(t, image)
		f.record(3, emptiedAt(1))
		finds(t, "P17.4", f.image, find(2, api.ErrOrder))
		f = forged(t, image)
		f.record(4, func(r *api.Record) { r.Root, r.Count = 2, 1 })
		if node.Climb(1, k, 0, node.Leaf(1, k, []byte("x")), 256) == empty {
			finds(t, "P17.15: the leaf's digest is the empty one's", f.image)
			right(t, "P17.15: the leaf's digest is the empty one's", f.image)
		} else {
			finds(t, "P17.5", f.image, find(4, api.ErrDigest))
		}
	}
}

// emptiedAt makes a record one of the empty map at a width.
func emptiedAt(width int) func(r *api.Record) {
	return func(r *api.Record) { r.Root, r.Count, r.Sum = 0, 0, node.Empty(width, 256) }
}
