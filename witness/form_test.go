package witness_test

import (
	"bytes"
	"fmt"
	"slices"
	"testing"

	"ledger/api"
	"ledger/witness"
)

// piece is what stands of one place ahead of the texts of its two sides: its mark and value, and the digests of its neighbours from a height up to below another one.
type piece struct {
	head     []byte
	from, to int
	hs       []int
	sums     []api.Digest
}

// pieces tells the pieces of a witness as they stand one behind the other.
func (c *claim) pieces() (all []piece) {
	var down func(h int, keys []api.Key)
	down = func(h int, keys []api.Key) {
		p := piece{head: missing, to: h}
		n, f := 0, 0
		if len(keys) > 1 {
			n, f = parting(keys)
			p.head, p.from = fork, f+1
		} else if a := c.answers[keys[0]]; a.Found {
			p.head = found(string(a.Val))
		}
		for g := p.from; g < h; g++ {
			if d := c.besideAt(rowBeside(keys[0], g)); d != emptySum(c.w, g) {
				p.hs, p.sums = append(p.hs, g), append(p.sums, d)
			}
		}
		all = append(all, p)
		if len(keys) > 1 {
			l, r := halves(keys, n)
			down(f, l)
			down(f, r)
		}
	}
	if len(c.keys) > 0 {
		down(256, c.keys)
	}
	return all
}

// with tells the piece with a digest more, or with another one in its place.
func (p piece) with(h int, d api.Digest) piece {
	at, is := slices.BinarySearch(p.hs, h)
	p.hs, p.sums = slices.Clone(p.hs), slices.Clone(p.sums)
	if is {
		p.sums[at] = d
		return p
	}
	p.hs, p.sums = slices.Insert(p.hs, at, h), slices.Insert(p.sums, at, d)
	return p
}

// written tells the bytes of pieces, one of which is another one.
func written(all []piece, at int, other piece) (raw []byte) {
	for i, p := range all {
		if i == at {
			p = other
		}
		raw = append(append(raw, p.head...), bitmap(p.hs...)...)
		for _, d := range p.sums {
			raw = append(raw, d[:]...)
		}
	}
	return raw
}

// ends tells the lowest and the highest height of which the bitmap speaks, if it speaks of one.
func (p piece) ends() []int {
	if p.from == p.to {
		return nil
	}
	return []int{p.from, p.to - 1}
}

// besides tells a digest of a width that is not the empty subtree's of a height: most often another one for another seed.
func besides(w, h, seed int) api.Digest {
	for ; ; seed++ {
		if x := sumOf(w, seed); x != emptySum(w, h) {
			return x
		}
	}
}

// formLists tells lists whose keys share 0, 1, 254 and 255 bits and some between, alone and mixed.
func formLists() [][]api.Key {
	x := flipped(keyM, 100)
	return [][]api.Key{
		{keyM}, {flipped(keyM, 7)}, {keyM, flipped(keyM, 0)}, {keyM, flipped(keyM, 1)}, {keyM, flipped(keyM, 254)}, {keyM, flipped(keyM, 255)}, {flipped(keyM, 254), flipped(keyM, 255)},
		{keyM, x}, {keyM, flipped(keyM, 255), flipped(keyM, 254), flipped(flipped(keyM, 254), 255)}, {keyM, x, flipped(x, 255), keyZ, keyK}, {keyC, keyB, keyK},
	}
}

// The bytes of each form, byte for byte: one key that is there or not, two keys that share 0, 1, 254 and 255 bits, forks within forks.
func TestBytesByHand(t *testing.T) {
	const w = 32
	a, b := flipped(keyK, 255), flipped(keyK, 254)
	lone := func(k api.Key, val string, h int) []byte { return flat(loneSum(w, k, val, h)) }
	m := entries{keyK: "k", a: "", keyB: "b"}
	top := lone(keyB, "b", 255)
	pair := pairSum(w, leafSum(w, keyK, "k"), leafSum(w, a, ""))
	left := func(to int) []byte {
		sum := pair
		for h := 1; h < to; h++ {
			sum = pairSum(w, sum, emptySum(w, h))
		}
		return flat(sum)
	}
	q := flipped(keyK, 1)
	for i, x := range []struct {
		keys []api.Key
		raw  []byte
	}{
		{[]api.Key{keyK}, join(found("k"), bitmap(0, 255), lone(a, "", 0), top)},
		{[]api.Key{a}, join(found(""), bitmap(0, 255), lone(keyK, "k", 0), top)},
		{[]api.Key{b}, join(missing, bitmap(1, 255), flat(pair), top)},
		{[]api.Key{keyZ}, join(missing, bitmap(254, 255)[:32], lone(keyB, "b", 254), left(255))},
		{[]api.Key{keyK, keyB}, join(fork, bitmap(), found("k"), bitmap(0), lone(a, "", 0), found("b"), bitmap())},
		{[]api.Key{keyK, q}, join(fork, bitmap(255), top, found("k"), bitmap(0), lone(a, "", 0), missing, bitmap())},
		{[]api.Key{keyK, b}, join(fork, bitmap(255), top, found("k"), bitmap(0), lone(a, "", 0), missing, bitmap())},
		{[]api.Key{keyK, a}, join(fork, bitmap(255), top, found("k"), bitmap(), found(""), bitmap())},
		{[]api.Key{b, flipped(b, 255)}, join(fork, bitmap(1, 255), flat(pair), top, missing, bitmap(), missing, bitmap())},
		{[]api.Key{keyK, a, b}, join(fork, bitmap(255), top, fork, bitmap(), found("k"), bitmap(), found(""), bitmap(), missing, bitmap())},
		{[]api.Key{keyZ, b, a, keyB}, join(fork, bitmap(), fork, bitmap(), found(""), bitmap(0), lone(keyK, "k", 0), missing, bitmap(), fork, bitmap(), found("b"), bitmap(), missing, bitmap())},
	} {
		if got := m.raw(w, x.keys...); !bytes.Equal(got, x.raw) {
			t.Fatalf("row %d: the plain reading makes %x, want %x", i, got, x.raw)
		}
		at := of(t, "the bytes", w, m)
		got, e := at.gather(x.keys, m.proofs(w, x.keys...))
		if e != api.OK || !bytes.Equal(got, x.raw) {
			t.Errorf("the bytes: row %d: %x, %v, want %x", i, got, e, x.raw)
		}
		at.takes(m, x.keys, x.raw)
	}
}

// P22.2: bytes that are cut anywhere, and bytes behind the last one.
func TestFormOfLengths(t *testing.T) {
	t.Parallel()
	m := someMap()
	for _, w := range []int{1, 4, 32} {
		for i, keys := range formLists() {
			a, raw := of(t, "P22.2", w, m), m.raw(w, keys...)
			for n := range raw {
				if _, e := witness.Verify(w, a.root, keys, raw[:n:n]); e != api.ErrProof {
					t.Errorf("P22.2: list %d: %d of %d bytes: %v", i, n, len(raw), e)
				}
				if n%9 > 0 {
					continue
				}
				if _, e := witness.Part(w, keys, raw[:n], keys[0]); e != api.ErrProof {
					t.Errorf("P22.2: list %d: %d of %d bytes: Part: %v", i, n, len(raw), e)
				}
			}
			a.refused("nothing", keys, nil, raw, api.ErrProof)
			a.refused("an empty list", keys, []byte{}, raw, api.ErrProof)
			a.refused("all but one byte", keys, raw[:len(raw)-1], raw, api.ErrProof)
			a.refused("all but the first byte", keys, raw[1:], raw, api.ErrProof)
			a.refused("a byte more", keys, append(slices.Clone(raw), 0), raw, api.ErrProof)
			a.refused("a digest more", keys, append(slices.Clone(raw), make([]byte, 32)...), raw, api.ErrProof)
			a.refused("twice", keys, slices.Concat(raw, raw), raw, api.ErrProof)
			a.refused("zeros", keys, make([]byte, len(raw)-1), raw, api.ErrProof)
		}
	}
	for _, raw := range [][]byte{{0}, {1}, {2}, make([]byte, 33), exampleK} {
		a := of(t, "P22.2", 4, m)
		a.refused("for no key", nil, raw, nil, api.ErrProof)
		_, e := a.part(nil, raw, keyK)
		a.is("Part for no key", e, api.ErrProof)
	}
	_, e := of(t, "P22.2", 4, m).part(nil, nil, keyK)
	of(t, "P22.2", 4, m).is("Part for no key", e, api.ErrKey)
}

// P22.2 to P22.4: each byte is changed, in several bits.
func TestEachByteChanged(t *testing.T) {
	t.Parallel()
	m := someMap()
	for i, keys := range formLists() {
		w := []int{4, 32, 1}[i%3]
		a, raw := of(t, "P22.2", w, m), m.raw(w, keys...)
		for n := range raw {
			for _, x := range []byte{1, 3, 128} {
				a.verify(keys, with(raw, n, raw[n]^x))
			}
		}
	}
}

// P22.2: the first byte of the text of one key is 0 or 1, that of several 2.
func TestFormOfMarks(t *testing.T) {
	m := someMap()
	for i, keys := range formLists() {
		w := []int{4, 32, 1}[i%3]
		c := m.claim(w, keys)
		a, raw := of(t, "P22.2", w, m), c.raw()
		for at, p := range c.pieces() {
			for _, mark := range []byte{0, 1, 2, 3, 255} {
				if mark == p.head[0] || p.head[0] != 2 && mark < 2 {
					continue
				}
				other := p
				other.head = with(p.head, 0, mark)
				a.refused(fmt.Sprintf("list %d: place %d has the mark %d", i, at, mark), keys, written(c.pieces(), at, other), raw, api.ErrProof)
				// As long as the text of one key that is there, or that is not, or of several.
				for _, behind := range [][]byte{nil, {0, 0}} {
					other.head = join([]byte{mark}, behind)
					_, e := a.verify(keys, written(c.pieces(), at, other))
					a.is(fmt.Sprintf("list %d: place %d has the mark %d and %d bytes more", i, at, mark, len(behind)), e, api.ErrProof)
				}
			}
		}
	}
	// One key's text in the place of a fork's, and the other way about.
	a := of(t, "P22.2", 4, exampleMap())
	a.refused("one key's for two", []api.Key{keyK, keyB}, exampleK, example2, api.ErrProof)
	a.refused("two keys' for one", []api.Key{keyK}, example2, exampleK, api.ErrProof)
	a.refused("three keys' for two", []api.Key{keyK, keyB}, example5, example2, api.ErrProof)
	a.refused("two keys' for three", []api.Key{keyK, keyB, keyC}, example2, example5, api.ErrProof)
}

// P22.2: a value has 128 bytes at most; its length has its lowest byte first.
func TestFormOfValues(t *testing.T) {
	for _, n := range []int{0, 1, 127, 128} {
		m := entries{keyK: text(n, n), keyB: text(n+1, 128)}
		for _, keys := range [][]api.Key{{keyK}, {keyB, keyK}, {keyC, keyK}} {
			of(t, "P22.2", 4, m).takes(m, keys, m.raw(4, keys...))
		}
	}
	for _, keys := range [][]api.Key{{keyK}, {keyK, keyC}, {keyK, keyB}} {
		c := exampleMap().claim(4, keys)
		for _, n := range []int{129, 130, 255, 256, 257, 384, 512, 32768, 65535} {
			c.answers[keyK] = api.Answer{Found: true, Val: []byte(text(3, n))}
			a, good := of(t, "P22.2", 4, exampleMap()), exampleMap().raw(4, keys...)
			a.refused(fmt.Sprintf("%d bytes", n), keys, c.raw(), good, api.ErrProof)
			_, e := a.at(c.root()).verify(keys, c.raw())
			a.is(fmt.Sprintf("%d bytes, under the root to which they lead", n), e, api.ErrProof)
			raw := bytes.Replace(c.raw(), []byte(text(3, n)), nil, 1)
			a.refused(fmt.Sprintf("%d bytes that are not there", n), keys, raw, good, api.ErrProof)
		}
		c.answers[keyK] = api.Answer{Found: true, Val: []byte(text(3, 128))}
		a := ask{t, "P22.2", 4, c.root()}
		_, e := a.verify(keys, c.raw())
		a.is("128 bytes", e, api.OK)
		_, e = a.verify(keys, bytes.Replace(c.raw(), []byte{1, 128, 0}, []byte{1, 0, 128}, 1))
		a.is("the length's bytes the other way about", e, api.ErrProof)
	}
}

// P22.2: a bitmap speaks of the heights from its place's fork, or from 0, up to below the place: a bit elsewhere is refused, with its digest or without; a bit within makes another neighbour.
func TestFormOfBitmaps(t *testing.T) {
	t.Parallel()
	m := entries{keyK: "k", keyZ: "z", flipped(keyM, 60): "m"}
	for i, keys := range formLists() {
		w := []int{32, 4}[i%2]
		a, c := of(t, "P22.2", w, m), m.claim(w, keys)
		all := c.pieces()
		for at, p := range all {
			for h := range 256 {
				// All heights of some lists, and those about the ends of all.
				near := h-p.from < 2 && p.from-h < 3 || h-p.to < 2 && p.to-h < 3
				if slices.Contains(p.hs, h) || i%4 > 1 && !near && h%8 > 0 {
					continue
				}
				want := api.ErrProof
				if h >= p.from && h < p.to {
					want = api.ErrRoot
				}
				raw := written(all, at, p.with(h, besides(w, h, at+h)))
				_, e := witness.Verify(w, a.root, keys, raw)
				a.is(fmt.Sprintf("list %d, place %d, the bit of %d with its digest", i, at, h), e, want)
				other := p.with(h, api.Digest{})
				at32 := slices.Index(other.hs, h)
				other.sums = slices.Delete(other.sums, at32, at32+1)
				_, e = witness.Verify(w, a.root, keys, written(all, at, other))
				if e == api.OK || at == len(all)-1 && e != api.ErrProof {
					t.Errorf("P22.2: list %d, place %d: the bit of %d without a digest: %v", i, at, h, e)
				}
				if h == p.from || h == p.to-1 {
					a.verify(keys, raw)
				}
				if h == p.from-1 || h == p.to {
					a.refused(fmt.Sprintf("list %d, place %d, the bit of %d", i, at, h), keys, raw, c.raw(), api.ErrProof)
				}
			}
		}
	}
}

// P22.2: no byte of a digest at or beyond the width, wherever it stands.
func TestFormBeyondTheWidth(t *testing.T) {
	t.Parallel()
	m := someMap()
	for w := 1; w < 32; w++ {
		for i, keys := range formLists() {
			c := m.claim(w, keys)
			a, all := of(t, "P22.2", w, m), c.pieces()
			for at, p := range all {
				for _, h := range p.ends() {
					for _, place := range []int{w, (w + 31) / 2, 31} {
						d := besides(w, h, at+h)
						d[place] = byte(1 + place%3*127)
						raw := written(all, at, p.with(h, d))
						if _, e := witness.Verify(w, a.root, keys, raw); e != api.ErrProof {
							t.Errorf("P22.2: width %d, list %d, place %d, height %d, byte %d: %v", w, i, at, h, place, e)
						}
						// With its first bytes the empty subtree's it is still the byte behind the width that is wrong.
						d = emptySum(w, h)
						d[place] = 1
						if _, e := witness.Verify(w, a.root, keys, written(all, at, p.with(h, d))); e != api.ErrProof {
							t.Errorf("P22.2: width %d, list %d, place %d, height %d, byte %d of the empty one's: %v", w, i, at, h, place, e)
						}
						if w == 4 && place == w {
							a.refused("a fifth byte", keys, raw, c.raw(), api.ErrProof)
						}
					}
				}
			}
		}
	}
}

// P22.2: an empty subtree's digest is not written out at its own height; at another height it is a digest like any other.
func TestFormOfEmptyDigests(t *testing.T) {
	t.Parallel()
	m := someMap()
	for _, w := range []int{1, 4, 32} {
		for i, keys := range formLists() {
			c := m.claim(w, keys)
			a, all := of(t, "P22.2", w, m), c.pieces()
			for at, p := range all {
				for h := p.from; h < p.to; h++ {
					atEnd := h == p.from || h == p.to-1
					if !atEnd && (w != 4 || h%5 > 0) {
						continue
					}
					raw := written(all, at, p.with(h, emptySum(w, h)))
					if _, e := witness.Verify(w, a.root, keys, raw); e != api.ErrDefault {
						t.Errorf("P22.2: width %d, list %d, place %d: E(%d): %v", w, i, at, h, e)
					}
					if !atEnd {
						continue
					}
					a.refused(fmt.Sprintf("E(%d)", h), keys, raw, c.raw(), api.ErrDefault)
					_, e := a.verify(keys, append(raw, 0))
					a.is(fmt.Sprintf("E(%d) and a byte more", h), e, api.ErrProof)
					_, e = a.verify(keys, raw[:len(raw)-1])
					a.is(fmt.Sprintf("E(%d) and a byte less", h), e, api.ErrProof)
					for _, other := range []int{h - 1, h + 1, 256} {
						if other >= 0 && emptySum(w, other) != emptySum(w, h) {
							raw := written(all, at, p.with(h, emptySum(w, other)))
							if _, e := witness.Part(w, keys, raw, keys[0]); e != api.OK {
								t.Errorf("P22.2: width %d, list %d, place %d: E(%d) at %d: %v", w, i, at, other, h, e)
							}
						}
					}
				}
			}
		}
	}
}

// P22.2: of two digests that are wrong the one that stands first is told, in one bitmap's row or in two places; what is wrong with the layout is told ahead of both.
func TestFormTellsTheFirstDigest(t *testing.T) {
	const w = 4
	m := someMap()
	for _, keys := range formLists() {
		c := m.claim(w, keys)
		a, all := of(t, "P22.2", w, m), c.pieces()
		type spot struct{ at, h int }
		var spots []spot
		for at, p := range all {
			for _, h := range []int{p.from, p.from + 9, p.to - 1} {
				if h >= p.from && h < p.to && !slices.Contains(spots, spot{at, h}) {
					spots = append(spots, spot{at, h})
				}
			}
		}
		slices.SortFunc(spots, func(x, y spot) int { return (x.at-y.at)*1000 + x.h - y.h })
		beyond := func(h int) api.Digest {
			d := besides(w, h, h)
			d[w+h%28] = 1
			return d
		}
		both := func(x, y spot, d1, d2 api.Digest) []byte {
			changed := slices.Clone(all)
			changed[x.at] = changed[x.at].with(x.h, d1)
			changed[y.at] = changed[y.at].with(y.h, d2)
			return written(changed, -1, piece{})
		}
		for i, x := range spots {
			for _, y := range spots[i+1:] {
				first := both(x, y, emptySum(w, x.h), beyond(y.h))
				second := both(x, y, beyond(x.h), emptySum(w, y.h))
				twice := both(x, y, emptySum(w, x.h), emptySum(w, y.h))
				if i == 0 {
					a.refused("the empty one first", keys, first, c.raw(), api.ErrDefault)
					a.refused("the empty one second", keys, second, c.raw(), api.ErrProof)
				}
				for _, row := range []struct {
					what string
					raw  []byte
					why  api.Errno
				}{
					{"the empty one first", first, api.ErrDefault}, {"the empty one first, a byte more", append(slices.Clone(first), 0), api.ErrProof},
					{"the empty one second", second, api.ErrProof}, {"two empty ones", twice, api.ErrDefault},
					{"two empty ones, the last byte gone", twice[:len(twice)-1], api.ErrProof}, {"two empty ones, another mark first", with(twice, 0, 3), api.ErrProof},
				} {
					_, e := a.verify(keys, row.raw)
					a.is(row.what, e, row.why)
				}
			}
		}
	}
}
