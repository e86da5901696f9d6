package digest_test

import (
	"bytes"
	"crypto/sha256"
	"encoding/hex"
	"math"
	"math/rand"
	"reflect"
	"strconv"
	"strings"
	"testing"

	"ledger/api"
	"ledger/digest"
)

const (
	hexOfNothing = "e3b0c44298fc1c149afbf4c8996fb92427ae41e4649b934ca495991b7852b855"
	hexOfAbc     = "ba7816bf8f01cfea414140de5dae2223b00361a396177a9cb410ff61f20015ad"
	textOf56     = "abcdbcdecdefdefgefghfghighijhijkijkljklmklmnlmnomnopnopq"
	hexOf56      = "248d6a61d20638b8e5c026930c3e6039a33ce45964ff2167f6ecedd419db06c1"
)

// The lengths around a block's end, of the text and of its padding (example 4).
var edgeLengths = []int{0, 1, 54, 55, 56, 57, 62, 63, 64, 65, 118, 119, 120, 121, 127, 128, 129, 183, 184, 191, 192, 193}

func sumText(s string) api.Digest { return digest.Sum([]byte(s)) }

func inHex(d api.Digest) string { return hex.EncodeToString(d[:]) }

// text makes n bytes, of every value, that no other n shares at its beginning.
func text(n int) []byte {
	b := make([]byte, n)
	rand.New(rand.NewSource(int64(n))).Read(b)
	return b
}

func want(b []byte) api.Digest { return api.Digest(sha256.Sum256(b)) }

func TestSumOfPublishedTexts(t *testing.T) {
	cases := []struct{ name, msg, hex string }{
		{"example 1", "", hexOfNothing},
		{"example 2", "abc", hexOfAbc},
		{"example 3", textOf56, hexOf56},
		{"a million times a", strings.Repeat("a", 1000000), "cdc76e5c9914fb9281a1c7e284d73e67f1809a48a497200e046d39ccc7112cd0"},
		{"the byte 2: E(0) of the ledger", "\x02", "dbc1b4c900ffe48d575b5da5c638040125f65db0fe3e24494b76ea986457d986"},
	}
	for _, c := range cases {
		if got := inHex(sumText(c.msg)); got != c.hex {
			t.Errorf("P1.1: %s: %s, want %s", c.name, got, c.hex)
		}
	}
}

func TestSumOfNilIsThatOfTheEmptyText(t *testing.T) {
	if inHex(digest.Sum(nil)) != hexOfNothing || inHex(digest.Sum([]byte{})) != hexOfNothing {
		t.Errorf("P1.1: nil and the empty text")
	}
}

func TestSumAtEveryLength(t *testing.T) {
	for n := range 520 {
		if b := text(n); digest.Sum(b) != want(b) {
			t.Errorf("P1.1: Sum of %d bytes", n)
		}
	}
}

func TestSumAtBlockEndsOfPlainBytes(t *testing.T) {
	for _, n := range edgeLengths {
		for _, fill := range []byte{0, 128, 255} {
			if b := bytes.Repeat([]byte{fill}, n); digest.Sum(b) != want(b) {
				t.Errorf("P1.1: Sum of %d bytes %d", n, fill)
			}
		}
	}
}

// The length in bits takes more than three of its eight bytes only from 2^21 text bytes on.
func TestSumOfALongText(t *testing.T) {
	if b := text(1<<21 + 77); digest.Sum(b) != want(b) {
		t.Errorf("P1.1: Sum of %d bytes", len(b))
	}
}

func TestSumLeavesItsArgument(t *testing.T) {
	for _, n := range edgeLengths {
		room := text(n + 200)
		before := bytes.Clone(room)
		first := digest.Sum(room[:n])
		if !bytes.Equal(room, before) {
			t.Errorf("P1.1, R5: Sum of %d bytes changed them or the room behind them", n)
		}
		if first != digest.Sum(bytes.Clone(room[:n])) {
			t.Errorf("R6: Sum of %d bytes hangs on the capacity", n)
		}
	}
}

func TestCutOfExampleFive(t *testing.T) {
	d := sumText("abc")
	cases := []struct {
		width int
		hex   string
	}{
		{2, "ba78" + strings.Repeat("00", 30)},
		{0, strings.Repeat("00", 32)},
		{-7, strings.Repeat("00", 32)},
		{99, hexOfAbc},
	}
	for _, c := range cases {
		if got := inHex(digest.Cut(d, c.width)); got != c.hex {
			t.Errorf("P1.2: Cut(Sum(abc), %d) = %s, want %s", c.width, got, c.hex)
		}
	}
}

func cutWidths() []int {
	widths := []int{math.MinInt, math.MinInt + 1, -1 << 32, -256, -32, -1, 33, 64, 255, 256, 1 << 32, 1<<32 + 3, math.MaxInt - 1, math.MaxInt}
	for w := range 33 {
		widths = append(widths, w)
	}
	return widths
}

func TestCutAtEveryWidth(t *testing.T) {
	var full api.Digest
	for i := range full {
		full[i] = byte(255 - i)
	}
	before := full
	for _, w := range cutWidths() {
		got := digest.Cut(full, w)
		for i := range got {
			kept := byte(0)
			if i < w {
				kept = full[i]
			}
			if got[i] != kept {
				t.Errorf("P1.2: Cut(.., %d): byte %d is %d, want %d", w, i, got[i], kept)
			}
		}
	}
	if full != before {
		t.Errorf("P1.2: Cut changed its argument")
	}
}

func TestCutTwiceIsTheSmallerCut(t *testing.T) {
	d := sumText("twice")
	for _, a := range cutWidths() {
		for _, b := range cutWidths() {
			if digest.Cut(digest.Cut(d, a), b) != digest.Cut(d, min(a, b)) {
				t.Errorf("P1.2: Cut(Cut(d, %d), %d)", a, b)
			}
		}
	}
}

// filledHasher has taken each of the pieces in turn.
func filledHasher(pieces ...string) *digest.Hasher {
	h := digest.New()
	for _, p := range pieces {
		h.Write([]byte(p))
	}
	return h
}

func TestHasherOfExampleSix(t *testing.T) {
	h := digest.New()
	if inHex(h.Sum()) != hexOfNothing {
		t.Errorf("P1.3: a new hasher has taken the empty text")
	}
	h.Write([]byte("a"))
	h.Write(nil)
	h.Write([]byte("bc"))
	if inHex(h.Sum()) != hexOfAbc {
		t.Errorf("P1.3, P1.4: Sum behind a, nil, bc")
	}
	if inHex(h.Sum()) != hexOfAbc {
		t.Errorf("P1.4: Sum asked twice")
	}
}

func TestHasherOfExampleSeven(t *testing.T) {
	h := filledHasher("a", "", "bc")
	g := h.Fork()
	h.Write([]byte("d"))
	if g.Sum() != sumText("abc") {
		t.Errorf("P1.5: the fork saw what was written to the first")
	}
	if h.Sum() != sumText("abcd") {
		t.Errorf("P1.5: the first behind its fork")
	}
	g.Reset()
	g.Write([]byte("x"))
	if g.Sum() != sumText("x") {
		t.Errorf("P1.3: Reset of a fork")
	}
	if h.Sum() != sumText("abcd") {
		t.Errorf("P1.5: the first saw the fork's Reset")
	}
}

func TestHasherOfExampleEight(t *testing.T) {
	p := []byte("abc")
	h := digest.New()
	h.Write(p)
	p[0] = 'z'
	if inHex(h.Sum()) != hexOfAbc {
		t.Errorf("P1.3: what the caller wrote into p later was seen")
	}
}

func TestWriteOfNothingChangesNothing(t *testing.T) {
	for _, n := range edgeLengths {
		h := digest.New()
		h.Write(text(n))
		before := *h
		h.Write(nil)
		h.Write([]byte{})
		h.Write(make([]byte, 0, 100))
		if *h != before || h.Sum() != want(text(n)) {
			t.Errorf("P1.3: an empty Write behind %d bytes", n)
		}
	}
}

func TestWriteLeavesAndForgetsItsArgument(t *testing.T) {
	for _, ahead := range edgeLengths {
		for _, n := range edgeLengths {
			room := text(n + 200)
			before := bytes.Clone(room)
			h := digest.New()
			h.Write(text(ahead))
			h.Write(room[:n])
			h.Sum()
			if !bytes.Equal(room, before) {
				t.Fatalf("P1.3: Write of %d bytes behind %d changed them or the room behind them", n, ahead)
			}
			clear(room)
			if h.Sum() != want(append(text(ahead), before[:n]...)) {
				t.Fatalf("P1.3: Write of %d bytes behind %d kept them", n, ahead)
			}
		}
	}
}

// One buffer that is written over for each piece is how callers use a hasher.
func TestWriteFromOneBufferAgainAndAgain(t *testing.T) {
	h := digest.New()
	var whole []byte
	buffer := make([]byte, 37)
	for i := range 30 {
		copy(buffer, text(37+i))
		h.Write(buffer)
		whole = append(whole, buffer...)
	}
	clear(buffer)
	if h.Sum() != want(whole) {
		t.Errorf("P1.3: pieces out of one buffer")
	}
}

func TestWriteCutAtEveryPlace(t *testing.T) {
	b := text(200)
	for i := 0; i <= len(b); i++ {
		h := digest.New()
		h.Write(b[:i])
		h.Write(b[i:])
		if h.Sum() != want(b) {
			t.Errorf("P1.3: 200 bytes cut at %d", i)
		}
	}
}

func TestSumInBetween(t *testing.T) {
	b := text(300)
	h := digest.New()
	for i := range b {
		for range 3 {
			before := *h
			if h.Sum() != want(b[:i]) {
				t.Fatalf("P1.4: Sum behind %d single bytes", i)
			}
			if *h != before {
				t.Fatalf("P1.4: Sum behind %d single bytes changed the hasher", i)
			}
		}
		h.Write(b[i : i+1])
	}
	if h.Sum() != want(b) {
		t.Errorf("P1.4: Sum behind all single bytes")
	}
}

func TestSumIsNewMemory(t *testing.T) {
	h := filledHasher("abc")
	d := h.Sum()
	clear(d[:])
	if inHex(h.Sum()) != hexOfAbc || inHex(sumText("abc")) != hexOfAbc {
		t.Errorf("P1.4, R5: writing into an answer was seen")
	}
}

func TestReset(t *testing.T) {
	for _, n := range edgeLengths {
		h := digest.New()
		h.Write(text(n))
		h.Reset()
		if inHex(h.Sum()) != hexOfNothing {
			t.Errorf("P1.3: Reset behind %d bytes", n)
		}
		h.Reset()
		h.Write([]byte("abc"))
		if inHex(h.Sum()) != hexOfAbc {
			t.Errorf("P1.3: Write behind a Reset behind %d bytes", n)
		}
	}
}

func TestForkGoesItsOwnWay(t *testing.T) {
	for _, n := range edgeLengths {
		for _, more := range edgeLengths {
			b, x, y := text(n), text(more+1), text(more+2)
			h := digest.New()
			h.Write(b)
			g := h.Fork()
			if g == h || g.Sum() != want(b) {
				t.Fatalf("P1.5: a fork behind %d bytes", n)
			}
			g.Write(x)
			if h.Sum() != want(b) {
				t.Fatalf("P1.5: behind %d bytes the first saw %d of the fork's", n, more+1)
			}
			h.Write(y)
			if g.Sum() != want(append(bytes.Clone(b), x...)) || h.Sum() != want(append(bytes.Clone(b), y...)) {
				t.Fatalf("P1.5: behind %d bytes and %d more of each", n, more)
			}
		}
	}
}

func TestResetOfTheFirstLeavesItsFork(t *testing.T) {
	h := filledHasher("abc")
	g := h.Fork()
	h.Reset()
	if inHex(g.Sum()) != hexOfAbc || inHex(h.Sum()) != hexOfNothing {
		t.Errorf("P1.5: a Reset of the first was seen in its fork")
	}
}

func TestForksOfForks(t *testing.T) {
	h := digest.New()
	var forks []*digest.Hasher
	b := text(150)
	for i := range b {
		forks = append(forks, h.Fork())
		h = h.Fork()
		h.Write(b[i : i+1])
	}
	for i, g := range forks {
		if g.Sum() != want(b[:i]) {
			t.Errorf("P1.5: the fork behind %d bytes", i)
		}
	}
}

// Many hashers, written, forked, reset and asked in any order, each held against its own plain text.
func TestManyHashersAtOneTime(t *testing.T) {
	r := rand.New(rand.NewSource(5))
	hashers := []*digest.Hasher{digest.New()}
	texts := [][]byte{nil}
	for step := range 6000 {
		i := r.Intn(len(hashers))
		switch r.Intn(8) {
		case 0:
			if len(hashers) < 12 {
				hashers, texts = append(hashers, hashers[i].Fork()), append(texts, bytes.Clone(texts[i]))
			}
		case 1:
			hashers, texts = append(hashers[:i:i], hashers[i+1:]...), append(texts[:i:i], texts[i+1:]...)
			hashers, texts = append(hashers, digest.New()), append(texts, nil)
		case 2:
			hashers[i].Reset()
			texts[i] = nil
		default:
			p := text(r.Intn(140))
			hashers[i].Write(p)
			texts[i] = append(texts[i], p...)
		}
		for j, h := range hashers {
			if h.Sum() != want(texts[j]) {
				t.Fatalf("P1.3 to P1.5: step %d, hasher %d behind %d bytes", step, j, len(texts[j]))
			}
		}
	}
}

// What may be kept: eight words, one block, one number; and none of it elsewhere than in the hasher itself.
func TestHasherKeepsNoText(t *testing.T) {
	kept := reflect.TypeOf(digest.Hasher{})
	if kept.Size() > 32+64+8+8 {
		t.Errorf("P1.6: a hasher has %d bytes", kept.Size())
	}
	if pointsElsewhere(kept) {
		t.Errorf("P1.6: a hasher holds memory beside its own")
	}
	h := digest.New()
	p := text(1 << 16)
	if n := testing.AllocsPerRun(50, func() { h.Write(p) }); n != 0 {
		t.Errorf("P1.6: a Write keeps %v pieces of memory", n)
	}
}

func pointsElsewhere(t reflect.Type) bool {
	switch t.Kind() {
	case reflect.Struct:
		for i := range t.NumField() {
			if pointsElsewhere(t.Field(i).Type) {
				return true
			}
		}
		return false
	case reflect.Array:
		return pointsElsewhere(t.Elem())
	case reflect.Pointer, reflect.Slice, reflect.Map, reflect.String, reflect.Interface, reflect.Func, reflect.Chan, reflect.UnsafePointer:
		return true
	}
	return false
}

// Of the blocks that are full, and of a text that was reset, no byte is kept.
func TestHasherForgetsFullBlocks(t *testing.T) {
	secret := bytes.Repeat([]byte{0xa7}, 63)
	h := digest.New()
	h.Write(secret)
	h.Write([]byte{1, 2, 3})
	if n := countBytes(h, 0xa7); n != 0 {
		t.Errorf("P1.6: %d bytes of a full block are kept", n)
	}
	h.Reset()
	if *h != *digest.New() {
		t.Errorf("P1.6: a hasher that was reset is not as a new one")
	}
}

// countBytes tells how often a byte stands in the arrays of bytes that a hasher holds.
func countBytes(h *digest.Hasher, b byte) int {
	n := 0
	v := reflect.ValueOf(*h)
	for i := range v.NumField() {
		f := v.Field(i)
		if f.Kind() != reflect.Array || f.Type().Elem().Kind() != reflect.Uint8 {
			continue
		}
		for j := range f.Len() {
			if byte(f.Index(j).Uint()) == b {
				n++
			}
		}
	}
	return n
}

// 65 bytes is what a branch of the ledger's tree hashes at the full width.
func BenchmarkSum(b *testing.B) {
	for _, n := range []int{65, 1 << 16} {
		b.Run(strconv.Itoa(n), func(b *testing.B) {
			msg := text(n)
			b.SetBytes(int64(n))
			b.ReportAllocs()
			for b.Loop() {
				digest.Sum(msg)
			}
		})
	}
}
