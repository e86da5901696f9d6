package ship_test

import (
	"bytes"
	"errors"
	"slices"
	"testing"

	"ledger/api"
	"ledger/ledger"
	"ledger/node"
	"ledger/ship"
)

// The rows of the chapter's examples, by their numbers.

// four makes the ledger of the examples, with its four commits.
func four(t *testing.T) *rig {
	t.Helper()
	r := begun(t, "examples", 64, 4, 8)
	for i, cs := range [][]api.Change{{put(keyK, "a")}, {put(keyQ, "b")}, {}, {del(keyK)}} {
		r.commits(cs...)
		if want := []int{4, 7, 8, 9}[i]; r.used != want {
			t.Errorf("examples: version %d: Used %d, want %d", i+1, r.used, want)
		}
	}
	r.holds()
	return r
}

// says asks for a refusal's text and the fixed error in it.
func (r *rig) says(err, why error, text string) {
	r.Helper()
	if !errors.Is(err, why) || err.Error() != text {
		r.fails("%v, want %q", err, text)
	}
}

// root tells a version's root as bytes.
func (r *rig) root(v int) []byte {
	r.Helper()
	sum, err := r.l.Root(v)
	if err != nil {
		r.Fatal(err)
	}
	return sum[:]
}

// bytesOf asks of an Export for its very bytes, whose sum is made here.
func (r *rig) bytesOf(from, to, length int, parts ...[]byte) {
	r.Helper()
	stream, err := ship.Export(r.l, from, to)
	if want := sealed(slices.Concat(parts...)); err != nil || !bytes.Equal(stream, want) || len(stream) != length {
		r.fails("Export(%d, %d) = %v, %v, want %v", from, to, stream, err, want)
	}
}

func TestExamples1To3(t *testing.T) {
	r := four(t)
	r.promise = "example 1"
	empty := node.Empty(4, 256)
	r.bytesOf(0, 0, 51, []byte("LDGS"), []byte{4}, make([]byte, 8), empty[:], []byte{0, 0})
	if h, err := ship.Peek(r.export(0, 0)); err != nil || h != (ship.Head{Width: 4, From: 0, To: 0, Sum: empty}) {
		r.fails("Peek = %+v, %v", h, err)
	}
	r.promise = "example 2"
	q := slices.Concat([]byte{1, 0, 1}, keyQ[:], []byte{1, 0, 'b'})
	r.bytesOf(1, 2, 158, []byte("LDGS"), []byte{4, 1, 0, 0, 0, 2, 0, 0, 0}, r.root(1), []byte{1, 0}, keyK[:], []byte{1, 0, 'a'}, []byte{38, 0}, q, r.root(2))
	r.promise = "example 3"
	r.bytesOf(2, 3, 51+35+35+2+2+32, []byte("LDGS"), []byte{4, 2, 0, 0, 0, 3, 0, 0, 0}, r.root(2), []byte{2, 0}, keyK[:], []byte{1, 0, 'a'}, keyQ[:], []byte{1, 0, 'b'}, []byte{2, 0, 0, 0}, r.root(3))
}

func TestExample4(t *testing.T) {
	r := four(t)
	r.promise = "example 4"
	for _, c := range []struct {
		l        *ledger.Ledger
		from, to int
		why      error
		text     string
	}{
		{r.l, 3, 2, ledger.ErrRange, "export at 3: the low end lies above the high end"},
		{r.l, -1, 3, ledger.ErrRange, "export: the low end lies above the high end"},
		{r.l, 5, 9, ledger.ErrVersion, "export at 5: no such version yet"},
		{r.l, 0, 9, ledger.ErrVersion, "export at 9: no such version yet"},
		{nil, 9, 9, ledger.ErrArg, "export at 9: a number that may not be"},
	} {
		s, err := ship.Export(c.l, c.from, c.to)
		r.says(err, c.why, c.text)
		if s != nil {
			r.fails("bytes and an error")
		}
	}
	if !bytes.Equal(r.export(-1, -1), r.tells(4, 4).stream()) {
		r.fails("Export(l, -1, -1) is not that of version 4 alone")
	}
}

func TestExamples5And6(t *testing.T) {
	r := four(t)
	stream := r.export(2, 4)
	other := imported(t, "example 5", 64, 8, stream)
	if other.used != 8 || other.first != 2 || other.last() != 4 {
		other.fails("Used %d, First %d, Last %d", other.used, other.first, other.last())
	}
	for n, used := range []int{6, 7, 8} {
		if s := r.tells(2, 2+n); s.need() != used || imported(t, "example 5", used, 8, s.stream()).used != used {
			other.fails("up to version %d %d pages are used, want %d", 2+n, s.need(), used)
		}
	}
	if a, err := other.l.Get(keyK[:], 2); err != nil || string(a.Val) != "a" {
		other.fails("Get(k, 2) = %q, %v", a.Val, err)
	}
	if a, err := other.l.Get(keyK[:], 4); err != nil || a.Found {
		other.fails("Get(k, 4) = %q, %v", a.Val, err)
	}
	_, err := other.l.Get(keyK[:], 1)
	other.says(err, ledger.ErrGone, "get at 1: a version below the first")
	less := blank(t, 7)
	_, err = ship.Import(less, 8, stream)
	other.says(err, ledger.ErrFull, "import: no page is left")
	if !bytes.Equal(less.Image(), make([]byte, 7*256)) {
		other.fails("the disk is not as blank as before")
	}
	imported(t, "example 5: on 8 pages", 8, 8, stream)

	same := imported(t, "example 6", 64, 8, r.export(0, 4))
	if !bytes.Equal(same.d.Image(), r.d.Image()) {
		same.fails("another image than that of l's own disk")
	}
}

func TestExample7(t *testing.T) {
	r := four(t)
	r.promise = "example 7"
	stream := r.export(1, 2)
	stream[len(stream)-4-32] ^= 5
	_, err := ship.Import(blank(t, 64), 8, stream)
	r.says(err, ledger.ErrStream, "import: no stream")
	_, err = ship.Import(blank(t, 64), 8, sealed(stream[:len(stream)-4]))
	r.says(err, ledger.ErrMismatch, "import at 2: another root than the stream says")
}

func TestExamples8And9(t *testing.T) {
	r := four(t)
	follows := func(other *rig, from, to, want int) {
		t.Helper()
		if n, err := ship.Follow(other.l, r.export(from, to)); n != want || err != nil {
			other.fails("Follow = %d, %v, want %d", n, err, want)
		}
	}
	refused := func(other *rig, from, to int) {
		t.Helper()
		n, err := ship.Follow(other.l, r.export(from, to))
		other.says(err, ledger.ErrBase, "follow: the stream begins elsewhere")
		if n != 0 {
			other.fails("%d and an error", n)
		}
	}
	other := imported(t, "example 8", 64, 8, r.export(2, 4))
	apart := imported(t, "example 9", 64, 8, r.export(2, 4)).commits(put(keyK, "else"))
	follows(other, 1, 4, 4)
	r.commits(put(keyK, "5")).commits(put(keyQ, "6"))
	follows(other, 3, 6, 6)
	r.commits().commits().commits()
	refused(other, 8, 9)
	refused(other, 1, 3)
	refused(apart, 3, 6)
}

func TestExample10(t *testing.T) {
	r := four(t)
	r.promise = "example 10"
	d := blank(t, 64)
	_, err := ship.Import(d, 0, nil)
	r.says(err, ledger.ErrArg, "import: a number that may not be")
	_, err = ship.Import(d, 1, nil)
	r.says(err, ledger.ErrStream, "import: no stream")
	_, err = ship.Import(r.d, 1, r.export(2, 4))
	r.says(err, ledger.ErrTaken, "import: there is something already")
	_, err = ship.Follow(r.l, nil)
	r.says(err, ledger.ErrStream, "follow: no stream")
}
