package batch_test

import (
	"math"
	"math/big"
	"math/rand"
	"testing"

	"ledger/api"
	"ledger/batch"
)

func TestKeysOfExamples(t *testing.T) {
	for _, c := range []struct {
		k       api.Key
		i, want int
	}{{keyB, 0, 1}, {keyB, 1, 0}, {keyC, 255, 1}, {keyC, 256, 0}, {keyB, -1, 0}} {
		if got := batch.Bit(c.k, c.i); got != c.want {
			t.Errorf("P3.2: Bit(%v, %d) = %d, want %d", c.k, c.i, got, c.want)
		}
	}
	for _, c := range []struct {
		a, b api.Key
		want int
	}{{keyA, keyB, 0}, {keyA, keyC, 255}, {keyA, keyA, 256}} {
		if got := batch.Common(c.a, c.b); got != c.want {
			t.Errorf("P3.3: Common(%v, %v) = %d, want %d", c.a, c.b, got, c.want)
		}
	}
	for _, c := range []struct {
		a, b api.Key
		want int
	}{{keyA, keyC, -1}, {keyB, keyC, 1}} {
		if got := batch.Compare(c.a, c.b); got != c.want {
			t.Errorf("P3.4: Compare(%v, %v) = %d, want %d", c.a, c.b, got, c.want)
		}
	}
}

// asNumber reads a key as one number of 256 bits, whose highest bit is the path's bit 0.
func asNumber(k api.Key) *big.Int { return new(big.Int).SetBytes(k[:]) }

func TestBitTellsEachBit(t *testing.T) {
	r := rand.New(rand.NewSource(1))
	keys := []api.Key{keyA, keyB, keyC}
	for range 20 {
		keys = append(keys, randomKey(r))
	}
	for _, k := range keys {
		number := asNumber(k)
		for i := range 256 {
			if got, want := batch.Bit(k, i), int(number.Bit(255-i)); got != want {
				t.Errorf("P3.2: Bit(%v, %d) = %d, want %d", k, i, got, want)
			}
		}
	}
}

func TestBitOutsideOfThePath(t *testing.T) {
	var ones api.Key
	for i := range ones {
		ones[i] = 255
	}
	for i := range 256 {
		if batch.Bit(ones, i) != 1 {
			t.Errorf("P3.2: Bit(ones, %d) is not 1", i)
		}
	}
	for _, i := range []int{-1, -2, -7, -8, -9, -255, -256, -257, math.MinInt, math.MinInt + 1, math.MinInt32, 256, 257, 263, 264, 511, 512, math.MaxInt, math.MaxInt - 1, math.MaxInt32, 1 << 32} {
		if got := batch.Bit(ones, i); got != 0 {
			t.Errorf("P3.2: Bit(ones, %d) = %d, want 0", i, got)
		}
	}
}

// flip tells the key with one bit of its path turned.
func flip(k api.Key, i int) api.Key {
	number := asNumber(k)
	number.SetBit(number, 255-i, 1-number.Bit(255-i))
	number.FillBytes(k[:])
	return k
}

// behind tells a key that has the first n bits of k, and others behind them.
func behind(r *rand.Rand, k api.Key, n int) api.Key {
	for i := n; i < 256; i++ {
		if r.Intn(2) == 1 {
			k = flip(k, i)
		}
	}
	return k
}

func TestCommonAndCompareAtEachBit(t *testing.T) {
	r := rand.New(rand.NewSource(2))
	for i := range 256 {
		a := behind(r, keyA, 0)
		b := behind(r, flip(a, i), i+1)
		if batch.Common(a, b) != i || batch.Common(b, a) != i {
			t.Errorf("P3.3: Common(%v, %v) = %d and %d, want %d", a, b, batch.Common(a, b), batch.Common(b, a), i)
		}
		want := asNumber(a).Cmp(asNumber(b))
		if batch.Compare(a, b) != want || batch.Compare(b, a) != -want {
			t.Errorf("P3.4: Compare(%v, %v) = %d, want %d", a, b, batch.Compare(a, b), want)
		}
		if ahead := batch.Bit(a, batch.Common(a, b)) == 0; ahead != (batch.Compare(a, b) == -1) {
			t.Errorf("P3.4: %v and %v: the one with 0 at their first unlike bit is not ahead", a, b)
		}
		if one := flip(a, i); batch.Common(a, one) != i {
			t.Errorf("P3.3: Common of keys that differ in bit %d alone = %d", i, batch.Common(a, one))
		}
		if batch.Common(a, a) != 256 || batch.Compare(a, a) != 0 {
			t.Errorf("P3.3, P3.4: of %v with itself: %d, %d", a, batch.Common(a, a), batch.Compare(a, a))
		}
	}
}

// Bytes count as numbers from 0 to 255, and the first unlike one alone decides.
func TestCompareTakesBytesAsNumbers(t *testing.T) {
	for place := range 32 {
		for _, c := range []struct{ low, high byte }{{0, 1}, {127, 128}, {0, 255}, {1, 128}, {254, 255}} {
			var a, b api.Key
			for i := place; i < 32; i++ {
				a[i] = 255
			}
			a[place], b[place] = c.low, c.high
			if batch.Compare(a, b) != -1 || batch.Compare(b, a) != 1 {
				t.Errorf("P3.4: byte %d is %d and %d: Compare = %d and %d", place, c.low, c.high, batch.Compare(a, b), batch.Compare(b, a))
			}
		}
	}
}
