package frame_test

import (
	"fmt"
	"math/rand"
	"testing"

	"ledger/api"
	"ledger/frame"
)

// turn turns bit i: the one of value 1 << (i mod 8) in the byte i / 8.
func turn(b []byte, i int) { b[i/8] ^= 1 << (i % 8) }

// turnPattern turns the bits from bit at on that are set in the pattern.
func turnPattern(b []byte, at int, pattern uint32) {
	for i := range 32 {
		if pattern>>i&1 == 1 {
			turn(b, at+i)
		}
	}
}

// spoiltPage asks that a page of that number is refused for its sum.
func spoiltPage(number int) func(*testing.T, string, []byte) {
	return func(t *testing.T, name string, raw []byte) {
		t.Helper()
		wantNoLoad(t, name, number, raw, api.ErrSum)
	}
}

// spoiltSuper asks the same of a superblock; a slot that is spoilt is no empty one either.
func spoiltSuper(t *testing.T, name string, raw []byte) {
	t.Helper()
	got, e := frame.UnpackSuper(raw)
	wantSuper(t, name, got, e, api.Super{}, api.ErrSum)
	wantNone(t, name, raw, make([]byte, 256), api.ErrCorrupt)
}

// sealed is a block of bytes with its sum, and how to ask that it is found spoilt.
type sealed struct {
	raw  []byte
	bits int
	ask  func(*testing.T, string, []byte)
}

func sealedOnes(t *testing.T) []sealed {
	t.Helper()
	var out []sealed
	for _, p := range []struct{ kind, number, n int }{{1, 2, 0}, {1, 2, 33}, {2, 255, 80}, {3, 4095, 246}} {
		raw, e := frame.Pack(p.kind, p.number, text(p.n))
		if e != api.OK {
			t.Fatalf("Pack(%d, %d, %d bytes): %v", p.kind, p.number, p.n, e)
		}
		out = append(out, sealed{raw, 2048, spoiltPage(p.number)})
	}
	for _, s := range []api.Super{rightSupers[0], rightSupers[1], rightSupers[8]} {
		raw, e := frame.PackSuper(s)
		if e != api.OK {
			t.Fatalf("PackSuper(%+v): %v", s, e)
		}
		out = append(out, sealed{raw, 512, spoiltSuper}, sealed{tailed(raw), 512, spoiltSuper})
	}
	return out
}

// askBurst turns a pattern of bits, asks, and turns them back.
func (s sealed) askBurst(t *testing.T, at int, pattern uint32) {
	t.Helper()
	turnPattern(s.raw, at, pattern)
	s.ask(t, fmt.Sprintf("P5.7: the pattern %08x turned at bit %d", pattern, at), s.raw)
	turnPattern(s.raw, at, pattern)
}

func TestABurstIsToldAtEveryPlace(t *testing.T) {
	for _, s := range sealedOnes(t) {
		for at := range s.bits - 31 {
			for _, pattern := range []uint32{1, 3, 0x80000001, 0xEDB88320, 0xDB710641, 0xFFFFFFFF, 0x80000000} {
				s.askBurst(t, at, pattern)
			}
		}
	}
}

func TestAnyBurstIsTold(t *testing.T) {
	r := rand.New(rand.NewSource(5))
	for _, s := range sealedOnes(t) {
		for range 3000 {
			s.askBurst(t, r.Intn(s.bits-31), max(r.Uint32(), 1))
		}
	}
}

func TestUpToFourBitsAreTold(t *testing.T) {
	r := rand.New(rand.NewSource(6))
	for _, s := range sealedOnes(t) {
		for count := 1; count <= 4; count++ {
			for range 1000 {
				places := r.Perm(s.bits)[:count]
				for _, i := range places {
					turn(s.raw, i)
				}
				s.ask(t, fmt.Sprintf("P5.7: the bits %v turned", places), s.raw)
				for _, i := range places {
					turn(s.raw, i)
				}
			}
		}
	}
}

func TestEveryTwoBitsOfASuperblockAreTold(t *testing.T) {
	raw := block(rightSupers[7])
	for i := range 512 {
		turn(raw, i)
		for j := range i {
			turn(raw, j)
			if s, e := frame.UnpackSuper(raw); s != (api.Super{}) || e != api.ErrSum {
				t.Errorf("P5.7: the bits %d and %d turned: %+v, %v", i, j, s, e)
			}
			turn(raw, j)
		}
		turn(raw, i)
	}
}

// A turned bit behind the first sector is nobody's.
func TestBitsBehindASuperblockAreNotAsked(t *testing.T) {
	for _, s := range rightSupers {
		raw := block(s)
		for i := 512; i < 2048; i++ {
			turn(raw, i)
			got, e := frame.UnpackSuper(raw)
			wantSuper(t, fmt.Sprintf("P5.4: bit %d turned", i), got, e, s, api.OK)
		}
	}
}
