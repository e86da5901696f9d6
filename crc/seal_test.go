package crc_test

import (
	"bytes"
	"math/rand"
	"slices"
	"testing"

	"ledger/crc"
)

func TestSealOfExamples(t *testing.T) {
	cases := []struct{ b, want []byte }{
		{[]byte("abc"), []byte{97, 98, 99, 194, 65, 36, 53}},
		{nil, []byte{0, 0, 0, 0}},
		{[]byte{}, []byte{0, 0, 0, 0}},
		{[]byte{0}, []byte{0, 0x8D, 0xEF, 0x02, 0xD2}},
	}
	for _, c := range cases {
		if got := crc.Seal(c.b); !bytes.Equal(got, c.want) {
			t.Errorf("P2.4: Seal(%v) = %v, want %v", c.b, got, c.want)
		}
	}
}

func TestSealLaysTheSumBehind(t *testing.T) {
	for _, n := range edgeLengths {
		b := text(n)
		sum := ^feed(0xFFFFFFFF, b)
		want := append(bytes.Clone(b), byte(sum), byte(sum>>8), byte(sum>>16), byte(sum>>24))
		if got := crc.Seal(b); !bytes.Equal(got, want) {
			t.Errorf("P2.4: Seal of %d bytes = %v, want %v", n, got, want)
		}
	}
}

func TestSealLeavesItsArgument(t *testing.T) {
	for _, n := range edgeLengths {
		room := text(n + 40)
		before := bytes.Clone(room)
		sealed := crc.Seal(room[:n])
		if !bytes.Equal(room, before) {
			t.Errorf("P2.4: Seal changed its %d bytes or the room behind them", n)
		}
		if !bytes.Equal(sealed, crc.Seal(room[:n:n])) {
			t.Errorf("P2.8: Seal of %d bytes hangs on the capacity", n)
		}
	}
}

// The spare room of an answer is new memory too.
func TestSealAnswersNewMemory(t *testing.T) {
	for _, n := range edgeLengths {
		room := text(n + 40)
		before := bytes.Clone(room)
		first, second := crc.Seal(room[:n]), crc.Seal(room[:n])
		kept := bytes.Clone(second)
		overwrite(first)
		overwrite(append(first, 1, 2, 3))
		if !bytes.Equal(room, before) {
			t.Errorf("P2.4: what Seal answers shares memory with its %d bytes", n)
		}
		if !bytes.Equal(second, kept) || !bytes.Equal(crc.Seal(room[:n]), kept) {
			t.Errorf("P2.4: two answers of Seal share memory (%d bytes)", n)
		}
	}
}

// A later change of the text is not seen in what was sealed.
func TestSealKeepsNothingOfItsArgument(t *testing.T) {
	b := text(50)
	sealed := crc.Seal(b)
	kept := bytes.Clone(sealed)
	overwrite(b)
	if !bytes.Equal(sealed, kept) {
		t.Errorf("P2.8: what Seal answered has changed with the text")
	}
}

// overwrite turns every bit of b and of the spare room behind it.
func overwrite(b []byte) {
	b = b[:cap(b)]
	for i := range b {
		b[i] ^= 255
	}
}

func TestWholeOfExamples(t *testing.T) {
	cases := []struct {
		b    []byte
		want bool
	}{
		{[]byte{97, 98, 99, 194, 65, 36, 53}, true},
		{[]byte{97, 98, 99, 194, 65, 36, 52}, false},
		{[]byte{97, 98, 99, 53, 36, 65, 194}, false},
		{[]byte{194, 65, 36, 53, 97, 98, 99}, false},
		{[]byte{97, 98, 99}, false},
		{nil, false},
		{[]byte{}, false},
		{[]byte{0}, false},
		{[]byte{0, 0}, false},
		{[]byte{0, 0, 0}, false},
		{[]byte{0, 0, 0, 0}, true},
		{[]byte{0, 0, 0, 0, 0}, false},
		{[]byte{255, 255, 255, 255, 255, 255, 255, 255}, true},
	}
	for _, c := range cases {
		if got := crc.Whole(c.b); got != c.want {
			t.Errorf("P2.5: Whole(%v) = %v", c.b, got)
		}
	}
}

func TestWholeOfFourBytesIsThatOfZerosAlone(t *testing.T) {
	for bit := range 32 {
		b := make([]byte, 4)
		turn(b, bit)
		if crc.Whole(b) {
			t.Errorf("P2.5: Whole(%v)", b)
		}
	}
}

func TestSealedTextsAreWhole(t *testing.T) {
	for n := range 400 {
		sealed := crc.Seal(text(n))
		if !crc.Whole(sealed) {
			t.Errorf("P2.5: %d bytes, sealed, are not whole", n)
		}
		if !crc.Whole(crc.Seal(sealed)) {
			t.Errorf("P2.5: %d bytes, sealed twice, are not whole", n)
		}
	}
}

func TestCutAndLengthenedTextsAreNotWhole(t *testing.T) {
	for n := 1; n < 300; n++ {
		sealed := crc.Seal(text(n))
		for name, b := range map[string][]byte{
			"without the first byte":  sealed[1:],
			"without the last byte":   sealed[:len(sealed)-1],
			"with a zero byte behind": behind(sealed, []byte{0}),
			"unsealed":                sealed[:n],
		} {
			if crc.Whole(b) != refWhole(b) {
				t.Errorf("P2.5: %d bytes, sealed, %s: %v", n, name, crc.Whole(b))
			}
		}
	}
}

// refWhole is P2.5 by the test's own register.
func refWhole(b []byte) bool {
	if len(b) < 4 {
		return false
	}
	seam := len(b) - 4
	sum := ^feed(0xFFFFFFFF, b[:seam])
	return bytes.Equal(b[seam:], []byte{byte(sum), byte(sum >> 8), byte(sum >> 16), byte(sum >> 24)})
}

func TestWholeLeavesItsArgument(t *testing.T) {
	for _, n := range edgeLengths {
		room := append(crc.Seal(text(n)), text(40)...)
		before := bytes.Clone(room)
		if !crc.Whole(room[:n+4]) || !crc.Whole(room[:n+4:n+4]) {
			t.Errorf("P2.8: whether %d bytes are whole hangs on the room behind them", n)
		}
		if !bytes.Equal(room, before) {
			t.Errorf("P2.8: Whole changed its %d bytes or the room behind them", n)
		}
	}
}

// turn turns bit i of a text: the one of value 1 << (i mod 8) in the byte i / 8.
func turn(b []byte, i int) { b[i/8] ^= 1 << (i % 8) }

// turnPattern turns the bits of b from bit at on that are set in the pattern.
func turnPattern(b []byte, at int, pattern uint32) {
	for i := range 32 {
		if pattern>>i&1 == 1 {
			turn(b, at+i)
		}
	}
}

// At every place of the text, those over the seam among them, with the longest and the shortest bursts.
func TestABurstIsToldAtEveryPlace(t *testing.T) {
	for _, n := range []int{0, 1, 3, 60, 252, 1000} {
		sealed := crc.Seal(text(n))
		for at := range 8*len(sealed) - 31 {
			for _, pattern := range []uint32{1, 3, 0x80000001, 0xEDB88320, 0xDB710641, 0xFFFFFFFF, 0x80000000} {
				turnPattern(sealed, at, pattern)
				if crc.Whole(sealed) {
					t.Errorf("P2.6: %d bytes, the pattern %08x turned at bit %d: whole", n, pattern, at)
				}
				turnPattern(sealed, at, pattern)
			}
		}
	}
}

func TestAnyBurstIsTold(t *testing.T) {
	r := rand.New(rand.NewSource(6))
	for range 20000 {
		n := r.Intn(400)
		sealed := crc.Seal(text(n))
		at, pattern := r.Intn(8*len(sealed)-31), max(r.Uint32(), 1)
		turnPattern(sealed, at, pattern)
		if crc.Whole(sealed) {
			t.Errorf("P2.6: %d bytes, the pattern %08x turned at bit %d: whole", n, pattern, at)
		}
	}
}

func TestABurstOverTheSeamIsTold(t *testing.T) {
	r := rand.New(rand.NewSource(7))
	for range 20000 {
		n := 4 + r.Intn(260)
		sealed := crc.Seal(text(n))
		at, pattern := 8*n-1-r.Intn(31), r.Uint32()|1|1<<31
		turnPattern(sealed, at, pattern)
		if crc.Whole(sealed) {
			t.Errorf("P2.6: %d bytes, the pattern %08x turned at bit %d: whole", n, pattern, at)
		}
	}
}

// toldFew turns count unlike bits of a sealed text, again and again, and asks whether it is whole.
func toldFew(t *testing.T, r *rand.Rand, sealed []byte, count, rounds int) {
	t.Helper()
	for range rounds {
		places := r.Perm(8 * len(sealed))[:count]
		for _, i := range places {
			turn(sealed, i)
		}
		if crc.Whole(sealed) {
			t.Errorf("P2.6: of %d bytes the bits %v turned: whole", len(sealed), places)
		}
		for _, i := range places {
			turn(sealed, i)
		}
	}
}

func TestUpToFourBitsAreTold(t *testing.T) {
	r := rand.New(rand.NewSource(8))
	for _, n := range []int{0, 1, 60, 252, 366, 367} {
		sealed := crc.Seal(text(n))
		for count := 1; count <= 4; count++ {
			toldFew(t, r, sealed, count, 500)
		}
	}
}

func TestTwoBitsOfALongTextAreTold(t *testing.T) {
	r := rand.New(rand.NewSource(9))
	for _, n := range []int{5000, 19995, 19996} {
		sealed := crc.Seal(text(n))
		toldFew(t, r, sealed, 1, 100)
		toldFew(t, r, sealed, 2, 100)
	}
}

// traces tells, for each bit of a sealed text of size bytes, by what the sum differs from the one that is laid down if that bit alone is turned. By P2.7 those of several turned bits are XORed.
func traces(size int) []uint32 {
	var out []uint32
	for i := range 32 {
		out = append(out, 1<<i)
	}
	for bit := range 8 {
		zero, turned := crc.Sum([]byte{0}), crc.Sum([]byte{1 << bit})
		for range size - 4 {
			out = append(out, zero^turned)
			zero, turned = crc.Update(zero, []byte{0}), crc.Update(turned, []byte{0})
		}
	}
	return out
}

func TestTracesAreThoseOfWhole(t *testing.T) {
	const size = 40
	sealed := crc.Seal(text(size - 4))
	for i := range 8 * size {
		turn(sealed, i)
		trace := crc.Sum(sealed[:size-4])
		for k, b := range sealed[size-4:] {
			trace ^= uint32(b) << (8 * k)
		}
		if !slices.Contains(traces(size), trace) {
			t.Errorf("P2.7: bit %d turned makes the difference %08x", i, trace)
		}
		turn(sealed, i)
	}
}

// No one and no two traces of the longest text cancel each other.
func TestEveryTwoBitsOfTheLongestTextAreTold(t *testing.T) {
	all := traces(20000)
	if len(all) != 8*20000 {
		t.Fatalf("%d traces", len(all))
	}
	slices.Sort(all)
	if all[0] == 0 || len(slices.Compact(all)) != 8*20000 {
		t.Errorf("P2.6: two bits of a text of 20000 bytes cancel each other")
	}
}

// No three traces cancel each other if no pair's is a single one's, no four if all pairs' are unlike.
func TestEveryFourBitsOfTheLongestPageAreTold(t *testing.T) {
	single := traces(371)
	pairs := make([]uint32, 0, len(single)*(len(single)-1)/2)
	for i, a := range single {
		for _, b := range single[:i] {
			pairs = append(pairs, a^b)
		}
	}
	slices.Sort(pairs)
	for _, a := range single {
		if _, found := slices.BinarySearch(pairs, a); found || a == 0 {
			t.Errorf("P2.6: at most three bits of 371 bytes make no difference (one of them %08x)", a)
		}
	}
	count := len(pairs)
	if pairs[0] == 0 || len(slices.Compact(pairs)) != count {
		t.Errorf("P2.6: two or four bits of 371 bytes cancel each other")
	}
}

// At the text's beginning, within it, over the seam and at its end.
func TestEveryPatternOfTwoBytesIsTold(t *testing.T) {
	sealed := crc.Seal(text(30))
	for pattern := uint32(1); pattern < 1<<16; pattern++ {
		for _, at := range []int{0, 5, 8*30 - 9, 8*34 - 32} {
			turnPattern(sealed, at, pattern)
			if crc.Whole(sealed) {
				t.Errorf("P2.6: the pattern %04x turned at bit %d: whole", pattern, at)
			}
			turnPattern(sealed, at, pattern)
		}
	}
}
