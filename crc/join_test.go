package crc_test

import (
	"hash/crc32"
	"math"
	"math/rand"
	"testing"

	"ledger/crc"
)

// once is how many zero bytes leave every register as it was.
const once = 1<<32 - 1

// times multiplies two registers as polynomials modulo the checksum's own (the highest bit stands for 1): another way to the answers than the program's.
func times(a, b uint32) uint32 {
	var product uint32
	for i := 31; i >= 0; i-- {
		if a>>i&1 == 1 {
			product ^= b
		}
		if b&1 == 1 {
			b = b>>1 ^ 0xEDB88320
		} else {
			b >>= 1
		}
	}
	return product
}

// zeros tells what n zero bytes make of a register.
func zeros(r uint32, n uint64) uint32 {
	for power := uint32(1 << 23); n > 0; n >>= 1 {
		if n&1 == 1 {
			r = times(r, power)
		}
		power = times(power, power)
	}
	return r
}

func TestTheReferenceOfJoinItself(t *testing.T) {
	for _, r := range edgeNumbers {
		for _, n := range []int{0, 1, 2, 3, 4, 5, 100, 1000} {
			if zeros(r, uint64(n)) != feed(r, make([]byte, n)) {
				t.Fatalf("the test's own reference: %d zero bytes into %08x", n, r)
			}
		}
	}
}

func TestJoinOfExamples(t *testing.T) {
	cases := []struct {
		a, b uint32
		n    int
		want uint32
	}{
		{0x352441C2, 0x7D90298B, 2, 0x8587D865},
		{1, 0, 1, 0x77073096},
		{0x80000000, 0, 4, 0xEDB88320},
		{1, 0, 1000000, 0x028632B4},
		{1, 2, 0, 3},
		{1, 2, -1, 0},
	}
	for _, c := range cases {
		if got := crc.Join(c.a, c.b, c.n); got != c.want {
			t.Errorf("P2.3: Join(%08x, %08x, %d) = %08x, want %08x", c.a, c.b, c.n, got, c.want)
		}
	}
}

func TestJoinBelowZeroIsZero(t *testing.T) {
	for _, n := range []int{-1, -2, -8, -once, -once - 1, math.MinInt + 1, math.MinInt} {
		for _, a := range edgeNumbers {
			for _, b := range edgeNumbers {
				if got := crc.Join(a, b, n); got != 0 {
					t.Errorf("P2.3: Join(%08x, %08x, %d) = %08x, want 0", a, b, n, got)
				}
			}
		}
	}
}

func TestJoinWithNoBytesIsTheXor(t *testing.T) {
	for _, a := range edgeNumbers {
		for _, b := range edgeNumbers {
			if got := crc.Join(a, b, 0); got != a^b {
				t.Errorf("P2.3: Join(%08x, %08x, 0) = %08x", a, b, got)
			}
		}
	}
}

func TestJoinOfEveryBitAndFewBytes(t *testing.T) {
	for bit := range 32 {
		for n := range 40 {
			a := uint32(1) << bit
			if got, want := crc.Join(a, 0, n), feed(a, make([]byte, n)); got != want {
				t.Errorf("P2.3: Join(%08x, 0, %d) = %08x, want %08x", a, n, got, want)
			}
		}
	}
}

func TestJoinOfAllNumbers(t *testing.T) {
	r := rand.New(rand.NewSource(3))
	for range 2000 {
		a, b, n := r.Uint32(), r.Uint32(), r.Intn(700)
		if got, want := crc.Join(a, b, n), feed(a, make([]byte, n))^b; got != want {
			t.Errorf("P2.3: Join(%08x, %08x, %d) = %08x, want %08x", a, b, n, got, want)
		}
	}
}

func TestJoinedSumsAreTheSumOfTheJoinedTexts(t *testing.T) {
	for _, m := range edgeLengths {
		for _, n := range edgeLengths {
			x, y := text(m), text(n)
			if got, want := crc.Join(crc.Sum(x), crc.Sum(y), n), crc.Sum(behind(x, y)); got != want {
				t.Errorf("P2.3: the sums of %d and %d bytes joined: %08x, want %08x", m, n, got, want)
			}
		}
	}
	x, y := text(1000), text(1<<20+3)
	if crc.Join(crc.Sum(x), crc.Sum(y), len(y)) != crc32.ChecksumIEEE(behind(x, y)) {
		t.Errorf("P2.3: the sums of 1000 and of %d bytes joined", len(y))
	}
}

// greatLengths tells the powers of two with their neighbours, and what lies around the lengths after which all begins anew.
func greatLengths() []int {
	var out []int
	for k := range 63 {
		out = append(out, 1<<k-1, 1<<k, 1<<k+1)
	}
	return append(out, once-2, once-1, once, once+1, 2*once-1, 2*once, 2*once+1, 1e15, math.MaxInt-once, math.MaxInt-1, math.MaxInt)
}

func TestJoinOfVeryGreatLengths(t *testing.T) {
	r := rand.New(rand.NewSource(4))
	for _, n := range greatLengths() {
		for range 10 {
			a, b := r.Uint32(), r.Uint32()
			if got, want := crc.Join(a, b, n), zeros(a, uint64(n))^b; got != want {
				t.Errorf("P2.3: Join(%08x, %08x, %d) = %08x, want %08x", a, b, n, got, want)
			}
		}
	}
}

func TestJoinBeginsAnew(t *testing.T) {
	r := rand.New(rand.NewSource(5))
	for _, n := range []int{0, 1, 2, 3, 255, 256, 1 << 31, once - 1, once, 1 << 62, math.MaxInt - once} {
		a, b := r.Uint32(), r.Uint32()
		if crc.Join(a, b, n) != crc.Join(a, b, n+once) {
			t.Errorf("P2.3: Join(%08x, %08x, %d) is another one at n + 2^32 - 1", a, b, n)
		}
	}
	for _, a := range edgeNumbers {
		if crc.Join(a, 0, once) != a {
			t.Errorf("P2.3: 2^32 - 1 zero bytes change %08x", a)
		}
	}
}

// By the same rule the greatest int stands for 2^31 - 1 zero bytes.
func TestJoinOfTheGreatestInt(t *testing.T) {
	for _, a := range edgeNumbers {
		if got, want := crc.Join(a, 77, math.MaxInt), crc.Join(a, 77, 1<<31-1); got != want {
			t.Errorf("P2.3: Join(%08x, 77, the greatest int) = %08x, want %08x", a, got, want)
		}
	}
	if got := crc.Join(0, 7, math.MaxInt); got != 7 {
		t.Errorf("P2.3: zeros fed into 0 make %08x", got^7)
	}
}
