package index_test

import (
	"bytes"
	"math/rand/v2"
	"testing"

	"ledger/api"
	"ledger/index"
)

// lays asks that a record is taken by Encode and that its load is taken back by Decode (P15.3).
func lays(t *testing.T, promise string, r api.Record) {
	t.Helper()
	load, e := index.Encode(r)
	if !bytes.Equal(load, laid(r)) || e != api.OK {
		t.Errorf("%s: Encode(%+v) = %v, %v", promise, r, load, e)
	}
	if back, e := index.Decode(laid(r)); back != r || e != api.OK {
		t.Errorf("%s: Decode of %+v = %+v, %v", promise, r, back, e)
	}
}

// laysNot asks that a record is refused by Encode, and by Decode the load whose numbers have the same lowest 32 bits, unless that is another record's.
func laysNot(t *testing.T, promise string, r api.Record) {
	t.Helper()
	if load, e := index.Encode(r); load != nil || e != api.ErrRecord {
		t.Errorf("%s: Encode(%+v) = %v, %v", promise, r, load, e)
	}
	for _, n := range []int{r.Version, r.First, r.Prev, r.Skip, r.Root, r.Count} {
		if n != int(int32(n)) {
			return
		}
	}
	if back, e := index.Decode(laid(r)); back != (api.Record{}) || e != api.ErrRecord {
		t.Errorf("%s: Decode of %+v = %+v, %v", promise, r, back, e)
	}
}

// P15.1: each limit of Version and First.
func TestVersionsThatMayBe(t *testing.T) {
	for _, c := range [][4]int{ // Version, First, Prev, Skip
		{1, 0, 0, 0}, {2, 0, 2, 0}, {3, 0, 2, 2}, {top, 0, 4095, 0}, {top - 1, 0, 9, 9}, {top - 2, 0, 9, 8},
		{1, 1, 0, 0}, {2, 1, 2, 0}, {3, 1, 2, 2}, {2, 2, 0, 0}, {3, 2, 4095, 0}, {7, 2, 9, 8},
		{40, 40, 0, 0}, {45, 40, 9, 8}, {top, top, 0, 0}, {top, top - 1, 2, 0}, {top, top - 2, 7, 7}, {top, 1, 2, 0},
		{1 << 29, 0, 2, 0}, {1<<29 + 1, 0, 2, 2}, {1<<29 + 2, 0, 3, 2},
	} {
		lays(t, "P15.1", linked(c[0], c[1], c[2], c[3]))
	}
	for _, c := range [][4]int{
		{0, 0, 0, 0}, {-1, 0, 0, 0}, {-1, -1, 0, 0}, {1, -1, 0, 0}, {1, -1, 2, 0}, {lowest, lowest, 0, 0}, {1, lowest, 0, 0}, {highest, 1, 0, 0}, {1, highest, 0, 0},
		{1, 2, 0, 0}, {0, 1, 0, 0}, {39, 40, 0, 0}, {top - 1, top, 0, 0}, {0, top, 0, 0},
		{top + 1, 0, 2, 2}, {top + 1, top, 2, 0}, {top + 1, top + 1, 0, 0}, {top, top + 1, 0, 0}, {highest, highest, 0, 0},
		{1 << 31, 0, 2, 0}, {1<<31 + 1, 1<<31 + 1, 0, 0}, {1<<32 + 1, 0, 0, 0}, {1, 1 << 32, 0, 0},
	} {
		laysNot(t, "P15.1", linked(c[0], c[1], c[2], c[3]))
	}
}

// P15.1: each limit of Prev and Skip, by the kinds of numbers: 1, a power of two, odd, another.
func TestLinksThatMayBe(t *testing.T) {
	pages := []int{lowest, -2, -1, 0, 1, 2, 3, 4, 5, 6, 4094, 4095, 4096, 4097, 1<<32 + 2, highest}
	may := map[int]func(prev, skip int) bool{
		1: func(prev, skip int) bool { return prev == 0 && skip == 0 },
		2: func(prev, skip int) bool { return prev >= 2 && prev <= 4095 && skip == 0 },
		3: func(prev, skip int) bool { return prev >= 2 && prev <= 4095 && skip == prev },
		6: func(prev, skip int) bool { return prev <= 4095 && skip >= 2 && skip < prev },
	}
	kinds := map[int]int{1: 1, 2: 2, 4: 2, 8: 2, 512: 2, 1 << 29: 2, 3: 3, 5: 3, 7: 3, 513: 3, 1<<29 - 1: 3, 6: 6, 10: 6, 12: 6, 14: 6, 514: 6, 1<<29 - 2: 6, 3 << 20: 6}
	for number, kind := range kinds {
		for _, first := range []int{0, 1, 2, 40, top - number + 1} {
			version := number
			if first > 0 {
				version = first + number - 1
			}
			for _, prev := range pages {
				for _, skip := range pages {
					r := linked(version, first, prev, skip)
					if rightForm(r) != may[kind](prev, skip) {
						t.Errorf("P15.1: the reading of %+v is wrong", r)
					}
					if may[kind](prev, skip) {
						lays(t, "P15.1", r)
					} else {
						laysNot(t, "P15.1", r)
					}
				}
			}
		}
	}
}

// P15.1: each limit of Root and Count.
func TestRootsThatMayBe(t *testing.T) {
	for _, r := range []api.Record{of(1, 0, 0), of(1, 2, 1), of(1, 2, 2), of(1, 3, 1), of(1, 4094, 1), of(1, 4095, 1), of(1, 2, 4095), of(1, 2, 4096), of(1, 4095, 4096)} {
		lays(t, "P15.1", r)
	}
	for _, r := range []api.Record{
		of(1, 1, 1), of(1, -1, 1), of(1, -2, 1), of(1, 4096, 1), of(1, 4097, 1), of(1, lowest, 1), of(1, highest, 1), of(1, 1<<32+2, 1), of(1, 1, 0), of(1, 4096, 0),
		of(1, 2, 0), of(1, 4095, 0), of(1, 0, 1), of(1, 0, 4096), of(1, 0, -1), of(1, 2, -1), of(1, 2, 4097), of(1, 2, lowest), of(1, 2, highest), of(1, 2, 1<<32+1), of(1, 0, 1<<32),
	} {
		laysNot(t, "P15.1", r)
	}
}

// P15.2: the bytes, lowest first, each field in its place.
func TestLoadOfARecord(t *testing.T) {
	r := api.Record{Version: 0x21436585, First: 0x01020304, Prev: 0x0ABC, Skip: 0x0987, Root: 0x0DEF, Count: 0x0543, Sum: sumOf(5)}
	want := append([]byte{
		0x85, 0x65, 0x43, 0x21, 4, 3, 2, 1, 0xBC, 0x0A, 0, 0, 0x87, 0x09, 0, 0, 0xEF, 0x0D, 0, 0, 0x43, 0x05, 0, 0,
	}, r.Sum[:]...)
	if load, e := index.Encode(r); !bytes.Equal(load, want) || len(load) != 56 || e != api.OK {
		t.Errorf("P15.2: %v, %v, want %v", load, e, want)
	}
	if back, e := index.Decode(want); back != r || e != api.OK {
		t.Errorf("P15.2: %+v, %v, want %+v", back, e, r)
	}
	for i := range 40 {
		sum := sumOf(i)
		lays(t, "P15.2", api.Record{Version: 1, Sum: sum})
		if load, _ := index.Encode(api.Record{Version: 1, Sum: sum}); !bytes.Equal(load[24:], sum[:]) {
			t.Errorf("P15.2: the digest is %v, want %v", load[24:], sum)
		}
	}
	lays(t, "P15.2", api.Record{Version: 1})
}

// P15.3: another length is no record's.
func TestLoadsOfOtherLengths(t *testing.T) {
	whole := append(laid(of(1, 2, 1)), make([]byte, 300)...)
	for n := range whole {
		r, e := index.Decode(whole[:n])
		if n == 56 {
			if r != of(1, 2, 1) || e != api.OK {
				t.Errorf("P15.3: 56 bytes: %+v, %v", r, e)
			}
		} else if r != (api.Record{}) || e != api.ErrRecord {
			t.Errorf("P15.3: %d bytes: %+v, %v", n, r, e)
		}
	}
	if r, e := index.Decode(nil); r != (api.Record{}) || e != api.ErrRecord {
		t.Errorf("P15.3: nil: %+v, %v", r, e)
	}
}

// P15.3: numbers of four bytes that are beyond all limits, in each field.
func TestNumbersBeyondAllLimits(t *testing.T) {
	for _, r := range []api.Record{of(1, 2, 1), linked(6, 0, 9, 8), linked(7, 0, 9, 9), linked(45, 40, 9, 8), linked(46, 40, 9, 9)} {
		for at := range 24 {
			for bit := range 8 {
				load := laid(r)
				load[at] ^= 1 << bit
				back, e := index.Decode(load)
				again, why := index.Encode(back)
				switch {
				case e == api.OK && (!bytes.Equal(again, load) || why != api.OK):
					t.Errorf("P15.3: %v is taken for %+v", load, back)
				case e != api.OK && (e != api.ErrRecord || back != api.Record{}):
					t.Errorf("P15.3: %v: %+v, %v", load, back, e)
				case at%4 == 3 && bit >= 6 && e != api.ErrRecord:
					t.Errorf("P15.3: %v: a number of 2^30 and above: %+v, %v", load, back, e)
				}
			}
		}
	}
	for at := 0; at < 24; at += 4 {
		load := laid(of(1, 2, 1))
		copy(load[at:], []byte{255, 255, 255, 255})
		if back, e := index.Decode(load); back != (api.Record{}) || e != api.ErrRecord {
			t.Errorf("P15.3: %v: %+v, %v", load, back, e)
		}
	}
}

// drawnRecord tells a record of which each field is near one of its limits: about one of four is right by its form.
func drawnRecord(rnd *rand.Rand) (r api.Record) {
	near := func(list ...int) int { return list[rnd.IntN(len(list))] + rnd.IntN(5)/2*(rnd.IntN(3)-1) }
	r.First = near(0, 0, 1, 2, 40, top)
	r.Version = r.First + near(0, 1, 2, 3, 4, 5, 6, 7)
	r.Prev = near(0, 2, 3, 4095)
	r.Skip = near(0, 2, r.Prev)
	if rnd.IntN(2) == 0 {
		r.Root, r.Count = near(2, 4095), near(1, 4096)
	}
	r.Sum = sumOf(rnd.IntN(9))
	return r
}

// P15.1, P15.3 of drawn records and drawn bytes: each of Encode and Decode gives back what the other took, and both take what is right by its form.
func TestDrawnRecords(t *testing.T) {
	rnd := rand.New(rand.NewPCG(15, 3))
	right := 0
	for range 60000 {
		r := drawnRecord(rnd)
		if rightForm(r) {
			right++
			lays(t, "P15.3", r)
		} else {
			laysNot(t, "P15.3", r)
		}
		load := laid(r)
		for range rnd.IntN(3) {
			load[rnd.IntN(24)] = byte(rnd.IntN(4)) * byte(rnd.IntN(60))
		}
		if back, e := index.Decode(load); e == api.OK {
			if again, why := index.Encode(back); !bytes.Equal(again, load) || why != api.OK || !rightForm(back) {
				t.Errorf("P15.3: %v is taken for %+v, which gives %v, %v", load, back, again, why)
			}
		}
	}
	if right < 5000 || right > 55000 {
		t.Errorf("P15.3: %d of 60000 records are right", right)
	}
}
