package batch_test

import (
	"bytes"
	"encoding/binary"
	"math/rand"
	"slices"
	"testing"

	"ledger/api"
	"ledger/batch"
)

// rawForm lays a list out as P3.5 says, in other words than the program.
func rawForm(cs []api.Change) []byte {
	var b bytes.Buffer
	binary.Write(&b, binary.LittleEndian, uint16(len(cs)))
	for _, c := range cs {
		if c.Del {
			b.WriteByte(2)
			b.Write(c.Key[:])
			continue
		}
		b.WriteByte(1)
		b.Write(c.Key[:])
		binary.Write(&b, binary.LittleEndian, uint16(len(c.Val)))
		b.Write(c.Val)
	}
	return b.Bytes()
}

func TestBuildOfExamples(t *testing.T) {
	one := slices.Concat([]byte{1, 0, 1}, keyB[:], []byte{0, 0})
	two := slices.Concat([]byte{2, 0, 2}, keyA[:], []byte{1}, keyC[:], []byte{2, 0, 'h', 'i'})
	if len(one) != 37 || len(two) != 72 {
		t.Fatal("the examples are not those of the chapter")
	}
	for _, c := range []struct {
		cs   []api.Change
		want []byte
	}{
		{[]api.Change{put(keyB, "")}, one},
		{[]api.Change{{Key: keyB}}, one},
		{[]api.Change{del(keyA), put(keyC, "hi")}, two},
		{nil, []byte{0, 0}},
		{[]api.Change{}, []byte{0, 0}},
	} {
		if raw, e := batch.Build(c.cs...); e != api.OK || !bytes.Equal(raw, c.want) {
			t.Errorf("P3.6: Build(%v) = %v, %d, want %v", c.cs, raw, e, c.want)
		}
	}
	if raw, e := batch.Build(); e != api.OK || !bytes.Equal(raw, []byte{0, 0}) {
		t.Errorf("P3.6: Build() = %v, %d", raw, e)
	}
}

func TestBuildLaysOutTheRawForm(t *testing.T) {
	r := rand.New(rand.NewSource(3))
	for n := range api.MaxOps + 1 {
		for range 5 {
			cs := randomList(r, n)
			if raw, e := batch.Build(cs...); e != api.OK || !bytes.Equal(raw, rawForm(cs)) {
				t.Errorf("P3.5, P3.6: Build(%v) = %v, %d", cs, raw, e)
			}
		}
	}
	for n := range api.MaxVal + 1 {
		cs := []api.Change{put(keyB, long(n)), del(keyC)}
		if raw, e := batch.Build(cs...); e != api.OK || !bytes.Equal(raw, rawForm(cs)) {
			t.Errorf("P3.5, P3.6: a value of %d bytes: %v, %d", n, raw, e)
		}
	}
}

// wrongList is a list that is refused wherever n changes may stand, and why.
type wrongList struct {
	name string
	cs   []api.Change
	want api.Errno
}

// wrongLists tells lists that are not right up to n, each error alone and with those that come behind it.
func wrongLists(n int) []wrongList {
	full, over := deletes(n), deletes(n+1)
	tooLong := put(numbered(n), long(129))
	again := del(numbered(0))
	return []wrongList{
		{"too many", over, api.ErrMany},
		{"too many, the last one long", with(over, n, tooLong), api.ErrMany},
		{"too many, the first one long", with(over, 0, tooLong), api.ErrMany},
		{"too many, one key twice", with(over, n, again), api.ErrMany},
		{"too many, long, one key twice", with(with(over, n, again), 1, tooLong), api.ErrMany},
		{"far too many", deletes(3*n + 1), api.ErrMany},
		{"129 bytes", []api.Change{put(keyA, long(129))}, api.ErrLong},
		{"70000 bytes", []api.Change{put(keyA, long(70000))}, api.ErrLong},
		{"65536 bytes", []api.Change{put(keyA, long(65536))}, api.ErrLong},
		{"the last one of a full list long", with(full, n-1, tooLong), api.ErrLong},
		{"the first one of a full list long", with(full, 0, tooLong), api.ErrLong},
		{"one key twice, then a long one", []api.Change{del(keyA), del(keyA), put(keyB, long(129))}, api.ErrLong},
		{"a long one, then one key twice", []api.Change{put(keyB, long(129)), del(keyA), del(keyA)}, api.ErrLong},
		{"one key twice, the second one long", []api.Change{put(keyB, ""), put(keyB, long(129))}, api.ErrLong},
		{"the first and the last of a full list", with(full, n-1, again), api.ErrDup},
		{"put and delete", []api.Change{put(keyB, "x"), del(keyB)}, api.ErrDup},
		{"delete and put", []api.Change{del(keyB), put(keyB, "x")}, api.ErrDup},
		{"put and put of another value", []api.Change{put(keyB, "x"), put(keyB, "y")}, api.ErrDup},
		{"put and put of the same value", []api.Change{put(keyB, "x"), put(keyB, "x")}, api.ErrDup},
		{"delete and delete", []api.Change{del(keyA), del(keyA)}, api.ErrDup},
		{"one between them", []api.Change{del(keyB), del(keyA), del(keyB)}, api.ErrDup},
		{"one key three times", []api.Change{del(keyB), del(keyB), del(keyB)}, api.ErrDup},
		{"a delete with a long Val, twice", []api.Change{{Key: keyA, Del: true, Val: []byte(long(129))}, del(keyA)}, api.ErrDup},
	}
}

// rightLists tells lists that are just right up to n.
func rightLists(n int) [][]api.Change {
	return [][]api.Change{
		nil,
		{},
		deletes(n),
		with(deletes(n), n-1, put(keyA, long(128))),
		{put(keyA, "")},
		{{Key: keyA, Val: nil}},
		{put(keyA, long(128)), put(keyB, long(128))},
		{{Key: keyA, Del: true, Val: []byte(long(129))}},
		{{Key: keyA, Del: true, Val: []byte(long(70000))}, put(keyB, "x")},
	}
}

func TestBuildRefusesWhatIsNotRight(t *testing.T) {
	for _, c := range wrongLists(api.MaxOps) {
		if raw, e := batch.Build(c.cs...); e != c.want || raw != nil {
			t.Errorf("P3.1, P3.6: %s: Build = %v, %d, want %d", c.name, raw, e, c.want)
		}
	}
	for _, cs := range rightLists(api.MaxOps) {
		if raw, e := batch.Build(cs...); e != api.OK || !bytes.Equal(raw, rawForm(cs)) {
			t.Errorf("P3.1, P3.6: of %d changes: Build = %v, %d", len(cs), raw, e)
		}
	}
}

// Wherever the two stand, a key that stands twice is found.
func TestBuildFindsEachPair(t *testing.T) {
	full := deletes(api.MaxOps)
	for j := range full {
		for i := range j {
			if raw, e := batch.Build(with(full, j, put(full[i].Key, "x"))...); e != api.ErrDup || raw != nil {
				t.Errorf("P3.1: places %d and %d: Build = %v, %d", i, j, raw, e)
			}
		}
	}
	for bit := range 256 {
		if _, e := batch.Build(del(keyB), del(flip(keyB, bit))); e != api.OK {
			t.Errorf("P3.1: keys that differ in bit %d: %d", bit, e)
		}
	}
}

func TestBuildAnswersNewMemory(t *testing.T) {
	r := rand.New(rand.NewSource(4))
	for n := range 9 {
		l := makeRoomy(randomList(r, n))
		first, _ := batch.Build(l.list...)
		second, _ := batch.Build(l.list...)
		kept := bytes.Clone(second)
		scribble(first)
		if !bytes.Equal(second, kept) {
			t.Errorf("P3.6, R5: two answers of Build share memory (%d changes)", n)
		}
		if l.touched() {
			t.Errorf("P3.6, R5: Build changed its %d changes, or shares memory with them", n)
		}
		scribbleList(l.whole)
		if !bytes.Equal(second, kept) {
			t.Errorf("P3.6, R5: what Build answered changes with its %d changes", n)
		}
	}
}
