package batch_test

import (
	"bytes"
	"encoding/binary"
	"io"
	"math/rand"
	"slices"
	"testing"

	"ledger/api"
	"ledger/batch"
)

// parsed is what a call of Parse answers.
type parsed struct {
	cs    []api.Change
	place int
	e     api.Errno
}

func parse(raw []byte) parsed {
	cs, place, e := batch.Parse(raw)
	return parsed{cs, place, e}
}

// check holds an answer of Parse against what it should be; beside an error no list may stand.
func (got parsed) check(t *testing.T, name string, raw []byte, want parsed) {
	t.Helper()
	if got.e != want.e || got.place != want.place || !same(got.cs, want.cs) || got.e != api.OK && got.cs != nil {
		t.Errorf("P3.7: %s: Parse(%v) = %v, %d, %d, want %v, %d, %d", name, raw, got.cs, got.place, got.e, want.cs, want.place, want.e)
	}
}

func refused(place int, e api.Errno) parsed { return parsed{nil, place, e} }

func number(n int) []byte { return []byte{byte(n), byte(n >> 8)} }

func TestParseOfExamples(t *testing.T) {
	a := keyA[:]
	for _, c := range []struct {
		name string
		raw  []byte
		want parsed
	}{
		{"one byte", []byte{0}, refused(0, api.ErrForm)},
		{"one byte behind none", []byte{0, 0, 0}, refused(0, api.ErrForm)},
		{"65 and nothing behind", []byte{65, 0}, refused(0, api.ErrMany)},
		{"length 129", slices.Concat([]byte{1, 0, 1}, a, []byte{129, 0}), refused(0, api.ErrLong)},
		{"127 of 128 bytes", slices.Concat([]byte{1, 0, 1}, a, []byte{128, 0}, []byte(long(127))), refused(0, api.ErrForm)},
		{"A twice", slices.Concat([]byte{2, 0, 2}, a, []byte{2}, a), refused(1, api.ErrDup)},
		{"A twice and a byte", slices.Concat([]byte{2, 0, 2}, a, []byte{2}, a, []byte{0}), refused(2, api.ErrForm)},
		{"A twice and no change", slices.Concat([]byte{3, 0, 2}, a, []byte{2}, a, []byte{3}), refused(2, api.ErrForm)},
	} {
		parse(c.raw).check(t, c.name, c.raw, c.want)
	}
}

func TestParseOfTooFewBytes(t *testing.T) {
	parse(nil).check(t, "nil", nil, refused(0, api.ErrForm))
	parse([]byte{}).check(t, "no bytes", nil, refused(0, api.ErrForm))
	for b := range 256 {
		raw := []byte{byte(b)}
		parse(raw).check(t, "one byte", raw, refused(0, api.ErrForm))
	}
	raw := []byte{0, 0}
	parse(raw).check(t, "the empty list", raw, parsed{nil, 0, api.OK})
}

func TestParseOfEachNumberOfChanges(t *testing.T) {
	for n := range 1 << 16 {
		want := refused(0, api.ErrForm)
		if n > 64 {
			want = refused(0, api.ErrMany)
		}
		if n > 0 {
			raw := number(n)
			parse(raw).check(t, "a number and nothing behind", raw, want)
		}
	}
	for _, n := range []int{64, 65, 66, 256, 320} {
		raw, want := rawForm(deletes(n)), refused(0, api.ErrMany)
		if n == 64 {
			want = parsed{deletes(64), 0, api.OK}
		}
		parse(raw).check(t, "all changes there", raw, want)
	}
}

// sizeOf tells how many bytes a change takes in the raw form.
func sizeOf(c api.Change) int { return len(rawForm([]api.Change{c})) - 2 }

func TestParseOfChangesCutAtEachPlace(t *testing.T) {
	r := rand.New(rand.NewSource(5))
	lists := [][]api.Change{{del(keyA)}, {put(keyA, "")}, {put(keyA, "x")}, {put(keyC, long(128))}, {del(keyA), put(keyC, "hi"), put(keyB, ""), del(numbered(1))}}
	for range 10 {
		lists = append(lists, randomList(r, 6))
	}
	for _, cs := range lists {
		whole := rawForm(cs)
		parse(whole).check(t, "whole", whole, parsed{told(cs), 0, api.OK})
		place, end := 0, 2+sizeOf(cs[0])
		for n := 2; n < len(whole); n++ {
			if n == end {
				place++
				end += sizeOf(cs[place])
			}
			parse(whole[:n:n]).check(t, "cut", whole[:n], refused(place, api.ErrForm))
			parse(whole[:n]).check(t, "cut, the rest in the room behind", whole[:n], refused(place, api.ErrForm))
		}
	}
}

func TestParseOfEachFirstByte(t *testing.T) {
	for b := range 256 {
		for place := range 3 {
			cs := deletes(place)
			raw := slices.Concat(number(place+1), rawForm(cs)[2:], []byte{byte(b)}, keyB[:], []byte{3, 0}, []byte("abc"))
			want := refused(place, api.ErrForm)
			switch b {
			case 1:
				want = parsed{append(cs, put(keyB, "abc")), 0, api.OK}
			case 2:
				want = refused(place+1, api.ErrForm) // the bytes behind the key are left
			}
			parse(raw).check(t, "a first byte", raw, want)
		}
	}
}

func TestParseOfEachLength(t *testing.T) {
	for n := range 1 << 16 {
		if n > 300 && n%251 != 0 && n < 1<<16-2 {
			continue
		}
		for _, there := range []int{0, 1, 127, 128, 129, n - 1, n, n + 1} {
			if there < 0 {
				continue
			}
			raw := slices.Concat([]byte{2, 0, 2}, keyB[:], []byte{1}, keyA[:], number(n), []byte(long(there)))
			want := parsed{[]api.Change{del(keyB), put(keyA, long(n))}, 0, api.OK}
			switch {
			case n > 128:
				want = refused(1, api.ErrLong)
			case there < n:
				want = refused(1, api.ErrForm)
			case there > n:
				want = refused(2, api.ErrForm)
			}
			parse(raw).check(t, "a length", raw[:min(len(raw), 80)], want)
		}
	}
}

func TestParseOfBytesLeftBehind(t *testing.T) {
	for n := range api.MaxOps + 1 {
		raw := rawForm(deletes(n))
		for _, left := range [][]byte{{0}, {1}, {2}, {255}, slices.Concat([]byte{2}, keyB[:]), make([]byte, 300)} {
			more := slices.Concat(raw, left)
			parse(more).check(t, "bytes left", more, refused(n, api.ErrForm))
		}
	}
}

func TestParseOfKeysTwice(t *testing.T) {
	full := deletes(api.MaxOps)
	for j := range full {
		for i := range j {
			raw := rawForm(with(full, j, put(full[i].Key, "x")))
			parse(raw).check(t, "one key twice", raw, refused(j, api.ErrDup))
		}
	}
	a, b, c := del(keyA), put(keyB, "x"), del(keyC)
	for _, x := range []struct {
		cs    []api.Change
		place int
	}{
		{[]api.Change{a, b, b, a}, 2},
		{[]api.Change{a, b, a, b}, 2},
		{[]api.Change{a, b, c, b, a}, 3},
		{[]api.Change{a, b, c, a, b}, 3},
		{[]api.Change{a, a, a}, 1},
		{[]api.Change{a, b, c, put(keyA, long(128))}, 3},
	} {
		raw := rawForm(x.cs)
		parse(raw).check(t, "keys twice", raw, refused(x.place, api.ErrDup))
	}
}

// Which error comes first where several apply.
func TestParseTellsTheFirstError(t *testing.T) {
	twice := rawForm([]api.Change{del(keyA), del(keyA)})[2:]
	tooLong := slices.Concat([]byte{1}, keyB[:], []byte{129, 0})
	noChange := []byte{3}
	for _, c := range []struct {
		name string
		n    int
		rest [][]byte
		want parsed
	}{
		{"too many, a wrong first byte", 65, [][]byte{noChange}, refused(0, api.ErrMany)},
		{"too many, a long one", 65, [][]byte{tooLong}, refused(0, api.ErrMany)},
		{"too many, one key twice", 65, [][]byte{twice}, refused(0, api.ErrMany)},
		{"a long one, then a wrong first byte", 2, [][]byte{tooLong, noChange}, refused(0, api.ErrLong)},
		{"a wrong first byte, then a long one", 2, [][]byte{noChange, tooLong}, refused(0, api.ErrForm)},
		{"one key twice, then a long one", 3, [][]byte{twice, tooLong}, refused(2, api.ErrLong)},
		{"one key twice, then one is missing", 3, [][]byte{twice}, refused(2, api.ErrForm)},
		{"one key twice, then one is cut", 3, [][]byte{twice, {2, 0}}, refused(2, api.ErrForm)},
		{"one key twice, bytes left", 2, [][]byte{twice, {7}}, refused(2, api.ErrForm)},
		{"a long one, bytes left", 1, [][]byte{tooLong, []byte(long(200))}, refused(0, api.ErrLong)},
	} {
		raw := append(number(c.n), slices.Concat(c.rest...)...)
		parse(raw).check(t, c.name, raw, c.want)
	}
}

// model reads raw bytes as P3.7 says, in other words than the program.
func model(raw []byte) parsed {
	in := bytes.NewReader(raw)
	var count uint16
	if binary.Read(in, binary.LittleEndian, &count) != nil {
		return refused(0, api.ErrForm)
	}
	if count > 64 {
		return refused(0, api.ErrMany)
	}
	var cs []api.Change
	for i := range int(count) {
		c, e := modelChange(in)
		if e != api.OK {
			return refused(i, e)
		}
		cs = append(cs, c)
	}
	if in.Len() > 0 {
		return refused(int(count), api.ErrForm)
	}
	seen := map[api.Key]bool{}
	for i, c := range cs {
		if seen[c.Key] {
			return refused(i, api.ErrDup)
		}
		seen[c.Key] = true
	}
	return parsed{cs, 0, api.OK}
}

func modelChange(in *bytes.Reader) (api.Change, api.Errno) {
	var c api.Change
	kind, err := in.ReadByte()
	if err != nil || kind < 1 || kind > 2 {
		return c, api.ErrForm
	}
	if _, err := io.ReadFull(in, c.Key[:]); err != nil {
		return c, api.ErrForm
	}
	if kind == 2 {
		c.Del = true
		return c, api.OK
	}
	var length uint16
	if binary.Read(in, binary.LittleEndian, &length) != nil {
		return c, api.ErrForm
	}
	if length > 128 {
		return c, api.ErrLong
	}
	c.Val = make([]byte, length)
	if _, err := io.ReadFull(in, c.Val); err != nil {
		return c, api.ErrForm
	}
	return c, api.OK
}

// spoil turns, cuts out or lays in a few bytes of a raw form.
func spoil(r *rand.Rand, raw []byte) []byte {
	raw = bytes.Clone(raw)
	for range r.Intn(4) {
		if len(raw) == 0 {
			break
		}
		i := r.Intn(len(raw))
		switch r.Intn(5) {
		case 0:
			raw[i] ^= 1 << r.Intn(8)
		case 1:
			raw[i] = byte(r.Intn(4))
		case 2:
			raw = slices.Delete(raw, i, i+1)
		case 3:
			raw = slices.Insert(raw, i, byte(r.Intn(4)))
		case 4:
			raw = raw[:i]
		}
	}
	return raw
}

func TestParseOfSpoiltBytes(t *testing.T) {
	r := rand.New(rand.NewSource(6))
	told := map[api.Errno]int{}
	for range 60000 {
		cs := randomList(r, r.Intn(5))
		if len(cs) > 1 && r.Intn(4) == 0 {
			cs[r.Intn(len(cs))].Key = cs[0].Key
		}
		raw := spoil(r, rawForm(cs))
		got := parse(raw)
		got.check(t, "spoilt bytes", raw, model(raw))
		told[got.e]++
		if got.e != api.OK {
			continue
		}
		if again, e := batch.Build(got.cs...); e != api.OK || !bytes.Equal(again, raw) {
			t.Errorf("P3.8: Build(Parse(%v)) = %v, %d", raw, again, e)
		}
	}
	for _, e := range []api.Errno{api.OK, api.ErrForm, api.ErrMany, api.ErrLong, api.ErrDup} {
		if told[e] < 50 {
			t.Errorf("the spoilt bytes met error %d %d times only", e, told[e])
		}
	}
}

func TestParseOfWhatBuildAnswers(t *testing.T) {
	r := rand.New(rand.NewSource(7))
	lists := rightLists(api.MaxOps)
	for n := range api.MaxOps + 1 {
		lists = append(lists, randomList(r, n), randomList(r, n))
	}
	for _, cs := range lists {
		raw, e := batch.Build(cs...)
		got := parse(raw)
		if e != api.OK || got.e != api.OK || got.place != 0 || !same(got.cs, told(cs)) {
			t.Errorf("P3.8: Parse(Build(%v)) = %v, %d, %d", cs, got.cs, got.place, got.e)
		}
	}
}

func TestParseAnswersNewMemory(t *testing.T) {
	r := rand.New(rand.NewSource(8))
	for n := range 9 {
		cs := randomList(r, n)
		room := slices.Concat(rawForm(cs), rawForm(cs))
		raw := room[:len(room)/2]
		before := bytes.Clone(room)
		checkAnswer(t, "P3.7, R5: Parse", nil, func() []api.Change { return parse(raw).cs })
		if !bytes.Equal(room, before) {
			t.Errorf("P3.7, R5: Parse changed its bytes, or the answer shares memory with them (%d changes)", n)
		}
		got := parse(raw)
		scribble(room)
		if !same(got.cs, told(cs)) {
			t.Errorf("P3.7, R5: what Parse answered changes with its bytes (%d changes)", n)
		}
	}
}
