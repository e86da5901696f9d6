package crc_test

import (
	"bytes"
	"hash/crc32"
	"math/rand"
	"testing"

	"ledger/crc"
)

// The lengths around those of a superblock and a page, with their sums and without.
var edgeLengths = []int{0, 1, 2, 3, 4, 5, 7, 8, 15, 16, 17, 59, 60, 61, 63, 64, 65, 252, 255, 256, 257, 367, 371}

// Registers and sums at the ends and with single bits.
var edgeNumbers = []uint32{0, 1, 2, 15, 16, 0xFF, 0x100, 0x12345678, 0x7FFFFFFF, 0x80000000, 0x80000001, 0xEDB88320, 0xFFFFFFFE, 0xFFFFFFFF}

// text makes n bytes of every value, the same ones for the same n.
func text(n int) []byte {
	b := make([]byte, n)
	rand.New(rand.NewSource(int64(n) + 5)).Read(b)
	return b
}

func behind(x, y []byte) []byte { return append(bytes.Clone(x), y...) }

// feed is the document's section 'The checksum', word for word.
func feed(r uint32, p []byte) uint32 {
	for _, b := range p {
		r ^= uint32(b)
		for range 8 {
			if r&1 == 1 {
				r = r>>1 ^ 0xEDB88320
			} else {
				r = r >> 1
			}
		}
	}
	return r
}

func TestSumOfExamples(t *testing.T) {
	cases := []struct {
		b   []byte
		sum uint32
	}{
		{nil, 0},
		{[]byte{}, 0},
		{[]byte("a"), 0xE8B7BE43},
		{[]byte("abc"), 0x352441C2},
		{[]byte("abcde"), 0x8587D865},
		{[]byte("de"), 0x7D90298B},
		{[]byte("123456789"), 0xCBF43926},
		{[]byte{0}, 0xD202EF8D},
		{[]byte{255, 255, 255, 255}, 0xFFFFFFFF},
	}
	for _, c := range cases {
		if got := crc.Sum(c.b); got != c.sum {
			t.Errorf("P2.1: Sum(%v) = %08x, want %08x", c.b, got, c.sum)
		}
	}
}

func TestSumOfEverySingleByte(t *testing.T) {
	for v := range 256 {
		b := []byte{byte(v)}
		if got, want := crc.Sum(b), ^feed(0xFFFFFFFF, b); got != want {
			t.Errorf("P2.1: Sum of the byte %d = %08x, want %08x", v, got, want)
		}
	}
}

func TestSumAtEveryLength(t *testing.T) {
	for n := range 400 {
		b := text(n)
		if got, want := crc.Sum(b), ^feed(0xFFFFFFFF, b); got != want {
			t.Errorf("P2.1: Sum of %d bytes = %08x, want %08x", n, got, want)
		}
		if got, want := crc.Sum(b), crc32.ChecksumIEEE(b); got != want {
			t.Errorf("P2.1: Sum of %d bytes = %08x, the library's is %08x", n, got, want)
		}
	}
}

func TestSumOfPlainBytes(t *testing.T) {
	for _, n := range edgeLengths {
		for _, fill := range []byte{0, 1, 15, 16, 128, 255} {
			b := bytes.Repeat([]byte{fill}, n)
			if got, want := crc.Sum(b), crc32.ChecksumIEEE(b); got != want {
				t.Errorf("P2.1: Sum of %d bytes %d = %08x, want %08x", n, fill, got, want)
			}
		}
	}
}

func TestSumOfALongText(t *testing.T) {
	b := text(3000001)
	if got, want := crc.Sum(b), crc32.ChecksumIEEE(b); got != want {
		t.Errorf("P2.1: Sum of %d bytes = %08x, want %08x", len(b), got, want)
	}
}

func TestUpdateOfExamples(t *testing.T) {
	cases := []struct {
		c    uint32
		p    []byte
		want uint32
	}{
		{0x352441C2, []byte("de"), 0x8587D865},
		{1, []byte{0}, 0xA505DF1B},
		{0xFFFFFFFF, []byte{0}, 0xFFFFFFFF},
	}
	for _, c := range cases {
		if got := crc.Update(c.c, c.p); got != c.want {
			t.Errorf("P2.2: Update(%08x, %v) = %08x, want %08x", c.c, c.p, got, c.want)
		}
	}
}

func TestUpdateFromAnyNumber(t *testing.T) {
	r := rand.New(rand.NewSource(1))
	numbers := append([]uint32(nil), edgeNumbers...)
	for range 100 {
		numbers = append(numbers, r.Uint32())
	}
	for _, c := range numbers {
		for _, n := range edgeLengths {
			p := text(n)
			if got, want := crc.Update(c, p), ^feed(^c, p); got != want {
				t.Errorf("P2.2: Update(%08x, %d bytes) = %08x, want %08x", c, n, got, want)
			}
		}
	}
}

func TestUpdateWithNothingIsTheNumber(t *testing.T) {
	for _, c := range edgeNumbers {
		if crc.Update(c, nil) != c || crc.Update(c, []byte{}) != c {
			t.Errorf("P2.2: Update(%08x, nil) = %08x", c, crc.Update(c, nil))
		}
	}
}

func TestUpdateFromNothingIsSum(t *testing.T) {
	for _, n := range edgeLengths {
		if p := text(n); crc.Update(0, p) != crc.Sum(p) {
			t.Errorf("P2.2: Update(0, %d bytes) is not their sum", n)
		}
	}
}

func TestUpdateGoesOn(t *testing.T) {
	whole := text(371)
	for cut := range len(whole) + 1 {
		if crc.Update(crc.Sum(whole[:cut]), whole[cut:]) != crc.Sum(whole) {
			t.Errorf("P2.2: Update behind %d bytes", cut)
		}
	}
}

func TestUpdateByteByByte(t *testing.T) {
	b := text(300)
	c := uint32(0)
	for i := range b {
		c = crc.Update(c, b[i:i+1])
	}
	if c != crc.Sum(b) {
		t.Errorf("P2.2: byte by byte %08x, at once %08x", c, crc.Sum(b))
	}
}

// Three texts of one length, the third the XOR of the others.
func TestSumOfAnXor(t *testing.T) {
	r := rand.New(rand.NewSource(2))
	for _, n := range edgeLengths {
		for range 20 {
			first, second, third := make([]byte, n), make([]byte, n), make([]byte, n)
			r.Read(first)
			r.Read(second)
			for i := range third {
				third[i] = first[i] ^ second[i]
			}
			if crc.Sum(first)^crc.Sum(second)^crc.Sum(make([]byte, n)) != crc.Sum(third) {
				t.Errorf("P2.7: %d bytes: the sums of %v and %v", n, first, second)
			}
		}
	}
}

func TestSumAndUpdateLeaveTheirArguments(t *testing.T) {
	for _, n := range edgeLengths {
		room := text(n + 40)
		before := bytes.Clone(room)
		sum, update := crc.Sum(room[:n]), crc.Update(7, room[:n])
		if !bytes.Equal(room, before) {
			t.Errorf("P2.8: %d bytes, or the room behind them, are changed", n)
		}
		exact := bytes.Clone(room)[:n:n]
		if crc.Sum(exact) != sum || crc.Update(7, exact) != update {
			t.Errorf("P2.8: the sum of %d bytes hangs on the capacity", n)
		}
	}
}

// Answers hang on the arguments alone, not on the calls that came between.
func TestCallsKeepNothing(t *testing.T) {
	b := text(100)
	sum, join, sealed := crc.Sum(b), crc.Join(5, 6, 77), crc.Seal(b)
	for n := range 50 {
		other := text(n)
		crc.Sum(other)
		crc.Update(uint32(n), other)
		crc.Join(uint32(n), 9, n)
		crc.Whole(crc.Seal(other))
	}
	if crc.Sum(b) != sum || crc.Join(5, 6, 77) != join || !bytes.Equal(crc.Seal(b), sealed) || !crc.Whole(sealed) {
		t.Errorf("P2.8: an answer hangs on calls that came between")
	}
}
