package span_test

import (
	"bytes"
	"fmt"
	"slices"
	"strings"
	"testing"

	"ledger/api"
	"ledger/span"
)

// wrongWidths tells widths that are none.
func wrongWidths() []int {
	return []int{lowest, -256, -33, -32, -1, 0, 33, 34, 64, 256, 257, 1 << 32, 1<<32 + 4, highest}
}

// P14.4: the width is asked ahead of all else, then the span, then the bytes.
func TestWidthThenSpan(t *testing.T) {
	m := chapterMap()
	raws := [][]byte{nil, {0}, {9}, m.proof(32, keyA, keyZ), bytes.Repeat([]byte{3}, 300)}
	for _, raw := range raws {
		for _, at := range append(crossed(), [2]api.Key{keyA, keyZ}, [2]api.Key{keyB, keyB}) {
			for _, w := range wrongWidths() {
				ask{t, "P14.4: the width", w, m.root(32), at[0], at[1]}.refuses(raw, api.ErrArg)
			}
		}
		for _, at := range crossed() {
			for _, w := range []int{1, 2, 31, 32} {
				for _, root := range []api.Digest{{}, m.root(w), emptySum(w, 256)} {
					ask{t, "P14.4: the span", w, root, at[0], at[1]}.refuses(raw, api.ErrRange)
				}
			}
		}
	}
	for w := 1; w <= 32; w++ {
		ask{t, "P14.4: the width", w, m.root(w), keyA, keyZ}.shows(m.proof(w, keyA, keyZ), m.between(keyA, keyZ))
		ask{t, "P14.4: the width", w, emptySum(w, 256), keyM, keyM}.shows(noneText(), nil)
	}
}

// P14.4: of every proof, cut anywhere or too long, nothing is taken.
func TestCutAndTooLong(t *testing.T) {
	m := someMap()
	for _, w := range []int{4, 32} {
		for _, at := range [][2]api.Key{{keyA, keyZ}, {keyM, keyM}} {
			a := ask{t, fmt.Sprintf("P14.4: width %d", w), w, m.root(w), at[0], at[1]}
			raw := m.proof(w, at[0], at[1])
			a.shows(raw, m.between(at[0], at[1]))
			for n := range raw {
				if l, e := span.Verify(w, a.root, a.lo, a.hi, raw[:n:n]); e != api.ErrProof || l != nil {
					t.Errorf("%s: %d of %d bytes: %v", a.promise, n, len(raw), e)
				}
			}
			for _, more := range [][]byte{{0}, {1}, {255}, make([]byte, 33), raw} {
				a.refuses(slices.Concat(raw, more), api.ErrProof)
			}
			// The bytes that are missing lie behind the proof, in the room that its list has.
			if l, e := span.Verify(w, a.root, a.lo, a.hi, raw[:len(raw)-1]); e != api.ErrProof || l != nil {
				t.Errorf("%s: the last byte is in the spare room: %v", a.promise, e)
			}
		}
	}
}

// P14.4: a first byte above 3, of the root's text and of those beneath.
func TestFirstBytes(t *testing.T) {
	m := chapterMap()
	a := ask{t, "P14.4", 32, m.root(32), keyA, keyZ}
	left, right := loneText(keyA, "a"), loneText(keyB, "b")
	for b := 4; b < 256; b++ {
		other := func(raw []byte) []byte { return append([]byte{byte(b)}, raw[1:]...) }
		a.refuses([]byte{byte(b)}, api.ErrProof)
		a.refuses(other(pairText(left, right)), api.ErrProof)
		a.refuses(pairText(other(left), right), api.ErrProof)
		a.refuses(pairText(left, other(right)), api.ErrProof)
	}
}

// P14.4: each kind of text at a touched place, at an outside one, at heights high and low.
func TestWhereTextsMayStand(t *testing.T) {
	d := cut(4, sumOf(3))
	nothing := api.Digest{31: 1}
	for _, c := range []struct {
		name   string
		lo, hi api.Key
		raw    []byte
		why    api.Errno
	}{
		{"none, touched", keyA, keyZ, noneText(), api.ErrRoot},
		{"sum, touched", keyA, keyZ, sumText(d), api.ErrProof},
		{"the empty sum, touched", keyA, keyZ, sumText(emptySum(4, 256)), api.ErrProof},
		{"lone, touched", keyA, keyZ, loneText(keyM, "m"), api.ErrRoot},
		{"pair, touched", keyA, keyZ, pairText(loneText(keyA, ""), loneText(keyB, "")), api.ErrRoot},
		{"sum, touched, on the left", keyA, keyZ, pairText(sumText(d), loneText(keyB, "")), api.ErrProof},
		{"sum, touched, on the right", keyA, keyZ, pairText(loneText(keyA, ""), sumText(d)), api.ErrProof},
		{"sum, outside, below", keyB, keyB, pairText(sumText(d), loneText(keyB, "")), api.ErrRoot},
		{"sum, outside, above", keyA, keyA, pairText(loneText(keyA, ""), sumText(d)), api.ErrRoot},
		{"lone, outside, below", keyB, keyB, pairText(loneText(keyA, ""), loneText(keyB, "")), api.ErrProof},
		{"lone, outside, above", keyA, keyA, pairText(loneText(keyA, ""), loneText(keyB, "")), api.ErrProof},
		{"pair, outside, below", keyB, keyB, pairText(pairText(loneText(keyA, ""), loneText(keyOf("01"), "")), loneText(keyB, "")), api.ErrProof},
		{"pair, outside, above", keyA, keyA, pairText(loneText(keyA, ""), pairText(sumText(d), sumText(d))), api.ErrProof},
		{"pair of sums, outside", keyA, keyA, pairText(noneText(), pairText(sumText(d), sumText(d))), api.ErrProof},
		{"none, outside, and a pair", keyB, keyZ, pairText(noneText(), pairText(loneText(keyB, ""), loneText(keyZ, ""))), api.ErrRoot},
		{"none, touched, and a sum", keyB, keyZ, pairText(sumText(d), noneText()), api.ErrRoot},
		{"the left half's last key is touched", moved(keyB, -1), keyB, pairText(sumText(d), loneText(keyB, "")), api.ErrProof},
		{"the right half's first key is touched", keyA, keyB, pairText(loneText(keyA, ""), sumText(d)), api.ErrProof},
		{"the right half's first key is not touched", keyA, moved(keyB, -1), pairText(loneText(keyA, ""), sumText(d)), api.ErrRoot},
	} {
		ask{t, "P14.4: " + c.name, 4, nothing, c.lo, c.hi}.refuses(c.raw, c.why)
	}
}

// around puts pairs around a text all the way down from the root to the place of a row, with what beside tells at each height.
func around(row string, inner []byte, beside func(height int) []byte) []byte {
	for bits := len(row) - 1; bits >= 0; bits-- {
		other := beside(255 - bits)
		if row[bits] == '0' {
			inner = pairText(inner, other)
		} else {
			inner = pairText(other, inner)
		}
	}
	return inner
}

// P14.4: no pair at the height 0, and none beneath it; a sum at any height where the place is outside, down to 0.
func TestLowestPlaces(t *testing.T) {
	w := 4
	for _, k := range []api.Key{keyA, keyM, keyZ} {
		sums := func(h int) []byte { return sumText(cut(w, sumOf(h))) }
		row := bitsOf(k)
		a := ask{t, "P14.4: the lowest places", w, api.Digest{}, k, k}
		raw := around(row, loneText(k, "v"), sums)
		a.refuses(raw, api.ErrRoot)
		l := listener{w: w, lo: k, hi: k, rest: raw}
		whole, _ := l.hear("")
		a.root = whole.sum
		a.shows(raw, []api.Entry{entry(k, "v")})
		if n := marks(t, w, a.root, k, k, raw); n != [4]int{0, 256, 1, 256} {
			t.Errorf("P14.4: %v", n)
		}
		a.refuses(around(row, sums(0), sums), api.ErrProof)
		a.refuses(around(row, pairText(loneText(k, ""), noneText()), sums), api.ErrProof)
		a.refuses(around(row, pairText(sums(1), sums(2)), sums), api.ErrProof)
		a.refuses(around(row[:255], pairText(sums(0), sums(1)), sums), api.ErrProof)
		for _, n := range []int{256, 257, 258, 300, 5000} {
			a.refuses(bytes.Repeat([]byte{3}, n), api.ErrProof)
			a.refuses(slices.Concat(bytes.Repeat([]byte{3}, n), make([]byte, 2*n)), api.ErrProof)
		}
	}
}

// P14.4: no byte of a sum at or beyond the width; the width is asked ahead of the empty digest.
func TestSumsBeyondTheWidth(t *testing.T) {
	for w := 1; w <= 32; w++ {
		m := chapterMap()
		m[keyA] = fmt.Sprint("a", w)
		for i := 0; m.sum(w, "0") == emptySum(w, 255); i++ {
			m[keyA] = fmt.Sprint("a", w, i)
		}
		a := ask{t, fmt.Sprintf("P14.4: width %d", w), w, m.root(w), keyB, keyZ}
		right := loneText(keyB, "b")
		a.shows(pairText(sumText(m.sum(w, "0")), right), m.between(keyB, keyZ))
		for at := w; at < 32; at++ {
			for _, b := range []byte{1, 128} {
				d := m.sum(w, "0")
				d[at] = b
				a.refuses(pairText(sumText(d), right), api.ErrProof)
				d = emptySum(w, 255)
				d[at] = b
				a.refuses(pairText(sumText(d), right), api.ErrProof)
			}
		}
		a.refuses(pairText(sumText(emptySum(w, 255)), right), api.ErrDefault)
	}
}

// P14.4: the empty digest is not written out at its own height; at another one it is a digest like any other.
func TestEmptySums(t *testing.T) {
	for _, w := range []int{1, 2, 32} {
		for _, h := range []int{0, 1, 2, 8, 100, 254, 255} {
			row := bitsOf(keyM)[:256-h]
			raw := func(at int) []byte {
				return around(row, loneText(keyM, ""), func(height int) []byte {
					if height == h {
						return sumText(emptySum(w, at))
					}
					return noneText()
				})
			}
			a := ask{t, fmt.Sprintf("P14.4: width %d, height %d", w, h), w, api.Digest{31: 1}, keyM, keyM}
			a.refuses(raw(h), api.ErrDefault)
			for _, at := range []int{h - 1, h + 1, 0, 255, 256} {
				if at < 0 || emptySum(w, at) == emptySum(w, h) {
					continue
				}
				a.refuses(raw(at), api.ErrRoot)
			}
		}
	}
}

// P14.4: a lone key begins with the place's bits, whatever it goes on with.
func TestLoneKeys(t *testing.T) {
	for _, bits := range []int{0, 1, 2, 7, 8, 9, 100, 255, 256} {
		row := bitsOf(keyM)[:bits]
		for bit := range 256 {
			k := flipped(keyM, bit)
			raw := around(row, loneText(k, "v"), func(h int) []byte { return sumText(cut(32, sumOf(h))) })
			a := ask{t, fmt.Sprintf("P14.4: a place of %d bits, a key whose bit %d is another", bits, bit), 32, api.Digest{31: 1}, keyM, keyM}
			want := api.ErrRoot
			if bit < bits {
				want = api.ErrProof
			}
			if l, e := span.Verify(a.w, a.root, a.lo, a.hi, raw); e != want || l != nil {
				t.Errorf("%s: %v, want %v", a.promise, e, want)
			}
		}
	}
}

// P14.4: lengths from none to the longest, and those that are too long, with as many bytes as they say.
func TestLoneLengths(t *testing.T) {
	for _, n := range []int{0, 1, 127, 128, 129, 130, 255, 256, 257, 384, 32768, 65535} {
		val := string(text(5, n))
		m := entries{keyM: val}
		a := ask{t, fmt.Sprintf("P14.4: a value of %d bytes", n), 32, m.root(32), keyA, keyZ}
		raw := loneText(keyM, val)
		if n > 128 {
			a.refuses(raw, api.ErrProof)
			a.refuses(raw[:35], api.ErrProof)
			a.refuses(raw[:35+128], api.ErrProof)
			continue
		}
		a.shows(raw, []api.Entry{entry(keyM, val)})
		a.refuses(append(slices.Clone(raw), 0), api.ErrProof)
		// One byte more, or one less, is said than is there.
		for _, by := range []byte{1, 255} {
			other := slices.Clone(raw)
			other[33] += by
			a.refuses(other, api.ErrProof)
		}
	}
}

// P14.4: what a pair may not have as its children, on either side, high and low.
func TestPairsOfNothing(t *testing.T) {
	for _, row := range []string{"", "0", "1", bitsOf(keyM)[:9], bitsOf(keyM)[:255], bitsOf(keyZ)[:255]} {
		sums := func(h int) []byte { return sumText(cut(32, sumOf(h))) }
		left, right := keyOf(row+"0"), keyOf(row+"1")
		a := ask{t, fmt.Sprintf("P14.4: beneath %d bits", len(row)), 32, api.Digest{31: 1}, left, right}
		zero, l, r := noneText(), loneText(left, ""), loneText(right, "")
		for _, c := range []struct {
			left, right []byte
			why         api.Errno
		}{
			{zero, zero, api.ErrProof}, {zero, r, api.ErrProof}, {l, zero, api.ErrProof}, {l, r, api.ErrRoot},
		} {
			a.refuses(around(row, pairText(c.left, c.right), sums), c.why)
		}
		if len(row) == 255 {
			continue
		}
		ll, rr := pairText(loneText(left, ""), loneText(keyOf(row+"01"), "")), pairText(loneText(keyOf(row+"10"), ""), loneText(keyOf(row+"11"), ""))
		a.hi = keyOf(row + "11")
		for _, c := range [][2][]byte{{zero, rr}, {ll, zero}, {ll, rr}, {l, rr}, {ll, r}} {
			a.refuses(around(row, pairText(c[0], c[1]), sums), api.ErrRoot)
		}
		a.lo, a.hi = right, right
		a.refuses(around(row, pairText(sums(1), zero), sums), api.ErrRoot)
		a.refuses(around(row, pairText(sums(1), r), sums), api.ErrRoot)
		a.lo, a.hi = left, left
		a.refuses(around(row, pairText(zero, sums(1)), sums), api.ErrRoot)
		a.refuses(around(row, pairText(l, sums(1)), sums), api.ErrRoot)
	}
}

// P14.4: the first thing that is wrong decides, in the order of the bytes; a pair's children when both have been read.
func TestFirstWrongDecides(t *testing.T) {
	const w = 4
	empty := func(h int) []byte { return sumText(emptySum(w, h)) }
	wide := empty(255)
	wide[32] = 1
	d := sumText(cut(w, sumOf(1)))
	b, low := loneText(keyB, ""), loneText(keyOf("01"), "")
	for _, c := range []struct {
		name   string
		lo, hi api.Key
		raw    []byte
		why    api.Errno
	}{
		{"an empty sum, then the end", keyB, keyB, pairText(empty(255), nil), api.ErrDefault},
		{"an empty sum, then a wrong mark", keyB, keyB, pairText(empty(255), []byte{9}), api.ErrDefault},
		{"an empty sum that is cut", keyB, keyB, pairText(empty(255)[:32], nil), api.ErrProof},
		{"a wide sum, then all else wrong", keyB, keyB, pairText(wide, []byte{9}), api.ErrProof},
		{"an empty sum, then bytes that are left", keyB, keyB, append(pairText(empty(255), b), 7), api.ErrDefault},
		{"a wrong key, then an empty sum", keyA, keyA, pairText(b, empty(255)), api.ErrProof},
		{"a right key, then an empty sum", keyA, keyA, pairText(loneText(keyA, ""), empty(255)), api.ErrDefault},
		{"none, then an empty sum", keyA, keyA, pairText(noneText(), empty(255)), api.ErrDefault},
		{"a pair of nones, then an empty sum", keyA, keyA, pairText(pairText(noneText(), noneText()), empty(255)), api.ErrProof},
		{"none beside a pair with an empty sum", keyOf("01"), keyB, pairText(pairText(empty(254), low), noneText()), api.ErrDefault},
		{"none beside a pair of none and an empty sum", keyOf("11"), keyZ, pairText(noneText(), pairText(empty(254), noneText())), api.ErrDefault},
		{"two empty sums", keyOf("01"), keyOf("01"), pairText(pairText(empty(254), low), empty(255)), api.ErrDefault},
		{"a wide sum, then an empty one", keyOf("01"), keyOf("01"), pairText(pairText(sumText(api.Digest{1, 31: 1}), low), empty(255)), api.ErrProof},
		{"an empty sum, then a wide one", keyOf("01"), keyOf("01"), pairText(pairText(empty(254), low), wide), api.ErrDefault},
		{"a sum where none may stand, the empty one", keyA, keyZ, pairText(empty(255), b), api.ErrProof},
		{"bytes that are left, and another root", keyB, keyB, append(pairText(d, b), 0), api.ErrProof},
		{"another root", keyB, keyB, pairText(d, b), api.ErrRoot},
		{"a value too long, then an empty sum", keyA, keyA, pairText(loneText(keyA, strings.Repeat("x", 129)), empty(255)), api.ErrProof},
	} {
		ask{t, "P14.4: " + c.name, w, api.Digest{31: 1}, c.lo, c.hi}.refuses(c.raw, c.why)
	}
}

// P14.4: all 32 bytes of the root are compared.
func TestOtherRoots(t *testing.T) {
	m := someMap()
	for _, w := range []int{1, 4, 32} {
		for _, at := range [][2]api.Key{{keyM, keyM}, {keyZ, keyZ}} {
			raw, root := m.proof(w, at[0], at[1]), m.root(w)
			a := ask{t, fmt.Sprintf("P14.4: width %d", w), w, root, at[0], at[1]}
			a.shows(raw, m.between(at[0], at[1]))
			for bit := range 256 {
				if l, e := span.Verify(w, api.Digest(flipped(api.Key(root), bit)), at[0], at[1], raw); e != api.ErrRoot || l != nil {
					t.Errorf("P14.4: width %d: bit %d of the root is another one: %v", w, bit, e)
				}
			}
		}
	}
	// At another width the same bytes lead elsewhere.
	raw := m.proof(4, keyA, keyZ)
	for _, w := range []int{3, 5, 32} {
		ask{t, "P14.4: another width", w, m.root(4), keyA, keyZ}.refuses(raw, api.ErrRoot)
	}
}

// P14.4: a proof is read for its own span: for another one it is refused, or says what that one's bytes say.
func TestOtherSpans(t *testing.T) {
	m := someMap()
	spans := spansOf(keyM)
	for _, at := range spans {
		raw := m.proof(32, at[0], at[1])
		for _, other := range spans {
			a := ask{t, "P14.4: another span", 32, m.root(32), other[0], other[1]}
			if got, e := a.verify(raw); e == api.OK && (!bytes.Equal(raw, m.proof(32, other[0], other[1])) || !same(got, m.between(other[0], other[1]))) {
				t.Errorf("%s: of %x to %x, asked from %x to %x: %s", a.promise, at[0], at[1], other[0], other[1], told(got))
			}
		}
	}
}

// P14.4 to P14.6: a bit of each byte of some proofs, turned: refused, for it shows nothing that the map does not hold.
func TestBitsTurned(t *testing.T) {
	m := entries{keyM: "m", flipped(keyM, 3): "", flipped(keyM, 250): "d", keyB: "y"}
	for _, at := range [][2]api.Key{{keyA, keyZ}, {keyM, keyM}} {
		raw := m.proof(32, at[0], at[1])
		for i := range raw {
			other := slices.Clone(raw)
			other[i] ^= 1 << (i % 8)
			if l, e := span.Verify(32, m.root(32), at[0], at[1], other); e == api.OK || l != nil {
				t.Errorf("P14.5: bit %d of byte %d is turned: %s, %v", i%8, i, told(l), e)
			}
		}
	}
}
