package ledger_test

import (
	"errors"
	"fmt"
	"strconv"
	"strings"
	"testing"

	"ledger/api"
	"ledger/ledger"
)

// P16.1: each fixed error has its text and stands for its number; no two are one.
func TestFixedErrors(t *testing.T) {
	seen := map[error]bool{}
	for _, row := range fixedErrors {
		if row.value.Error() != row.text {
			t.Errorf("P16.1: %d says %q, want %q", row.number, row.value.Error(), row.text)
		}
		if seen[row.value] {
			t.Errorf("P16.1: %d is another one's error", row.number)
		}
		seen[row.value] = true
		if e := ledger.Code(row.value); e != row.number {
			t.Errorf("P16.5: Code(%v) = %d, want %d", row.value, e, row.number)
		}
	}
	if len(seen) != 20 {
		t.Errorf("P16.1: %d errors", len(seen))
	}
}

// P16.1: a text alone makes none of the fixed errors.
func TestTextIsNotTheError(t *testing.T) {
	for _, row := range fixedErrors {
		other := errors.New(row.text)
		if errors.Is(other, row.value) || ledger.Code(other) != -1 {
			t.Errorf("P16.5: another error with the text %q is taken for %d", row.text, row.number)
		}
		if e := ledger.Code(row.number); e != -1 {
			t.Errorf("P16.5: the number %d as an error is told as %d", row.number, e)
		}
	}
}

// P16.2: where a place is, in words.
func TestWhere(t *testing.T) {
	for _, c := range []struct {
		place ledger.Place
		want  string
	}{
		{ledger.Place{Call: "commit", At: 3}, "commit at 3"},
		{ledger.Place{Call: "open", At: -1}, "open"},
		{ledger.Place{Call: "open", At: 0}, "open at 0"},
		{ledger.Place{Call: "open", At: -2}, "open at -2"},
		{ledger.Place{Call: "", At: -1}, ""},
		{ledger.Place{Call: "", At: 7}, " at 7"},
		{ledger.Place{}, " at 0"},
		{ledger.Place{Call: "a b at 1", At: 1 << 30}, "a b at 1 at 1073741824"},
		{ledger.Place{Call: "x", At: highest}, "x at " + strconv.Itoa(highest)},
		{ledger.Place{Call: "x", At: lowest}, "x at " + strconv.Itoa(lowest)},
	} {
		if got := c.place.Where(); got != c.want {
			t.Errorf("P16.2: Where of %+v is %q, want %q", c.place, got, c.want)
		}
		f := &ledger.Fault{Place: c.place, Why: ledger.ErrFull}
		if f.Where() != c.want || f.Call != c.place.Call || f.At != c.place.At || f.Place != c.place {
			t.Errorf("P16.2: a Fault's place is %q, want %q", f.Where(), c.want)
		}
	}
}

// P16.3: what a Fault says, and what it holds.
func TestFault(t *testing.T) {
	other := errors.New("something else")
	inner := &ledger.Fault{Place: ledger.Place{Call: "in", At: 5}, Why: other}
	for _, c := range []struct {
		f    *ledger.Fault
		want string
	}{
		{&ledger.Fault{Place: ledger.Place{Call: "go", At: -1}, Why: other}, "go: something else"},
		{&ledger.Fault{Place: ledger.Place{Call: "go", At: 9}, Why: other}, "go at 9: something else"},
		{&ledger.Fault{Place: ledger.Place{Call: "go", At: 9}, Why: inner}, "go at 9: in at 5: something else"},
		{&ledger.Fault{Place: ledger.Place{Call: "go", At: -7}, Why: ledger.ErrKey}, "go at -7: not a key's bytes"},
		{&ledger.Fault{Place: ledger.Place{Call: "go", At: -1}}, "go: no reason"},
		{&ledger.Fault{Place: ledger.Place{Call: "go", At: 2}}, "go at 2: no reason"},
		{&ledger.Fault{}, " at 0: no reason"},
		{&ledger.Fault{Why: errors.New("")}, " at 0: "},
	} {
		if got := c.f.Error(); got != c.want {
			t.Errorf("P16.3: %q, want %q", got, c.want)
		}
		if c.f.Unwrap() != c.f.Why || errors.Unwrap(c.f) != c.f.Why {
			t.Errorf("P16.3: Unwrap of %q is %v, want %v", c.want, c.f.Unwrap(), c.f.Why)
		}
	}
}

// P16.4: Wrap makes a Fault with the fixed error of each number; of a number that none stands for with ErrCorrupt; of OK nothing.
func TestWrap(t *testing.T) {
	byNumber := map[api.Errno]error{}
	for _, row := range fixedErrors {
		byNumber[row.number] = row.value
	}
	numbers := []api.Errno{-1, -2, api.Errno(lowest), api.Errno(highest), 1 << 32, 1<<32 + 1}
	for e := range api.Errno(300) {
		numbers = append(numbers, e)
	}
	for _, e := range numbers {
		for _, at := range []int{-1, 0, 4, -3} {
			err := ledger.Wrap("call", at, e)
			if e == api.OK {
				if err != nil {
					t.Errorf("P16.4: Wrap of OK is %v", err)
				}
				continue
			}
			want, has := byNumber[e]
			if !has {
				want = ledger.ErrCorrupt
			}
			var f *ledger.Fault
			if !errors.As(err, &f) || error(f) != err || f.Place != (ledger.Place{Call: "call", At: at}) || f.Why != want {
				t.Errorf("P16.4: Wrap(call, %d, %d) = %v, want %v", at, e, err, want)
			}
			if has && ledger.Code(err) != e || !has && ledger.Code(err) != 4 {
				t.Errorf("P16.5: Code(Wrap(%d)) = %d", e, ledger.Code(err))
			}
		}
	}
}

// P16.4: each Fault is one of its own.
func TestWrapAnew(t *testing.T) {
	one, two := ledger.Wrap("a", 1, api.ErrKey), ledger.Wrap("a", 1, api.ErrKey)
	var f *ledger.Fault
	errors.As(one, &f)
	f.Call, f.At, f.Why = "b", 2, nil
	if two.Error() != "a at 1: not a key's bytes" || ledger.Wrap("a", 1, api.ErrKey).Error() != two.Error() {
		t.Errorf("P16.4: two faults have to do with each other: %v", two)
	}
}

// many is an error that holds several.
type many []error

func (m many) Error() string   { return "many" }
func (m many) Unwrap() []error { return m }

// like is an error that says itself what it is.
type like struct {
	what error
	note []int // so that no two of them can be compared
}

func (l like) Error() string        { return "like" }
func (l like) Is(target error) bool { return target == l.what }

// P16.5: Code finds what errors.Is finds, however deep it is wrapped; of several the lowest number.
func TestCode(t *testing.T) {
	if e := ledger.Code(nil); e != api.OK {
		t.Errorf("P16.5: Code(nil) = %d", e)
	}
	for _, err := range []error{errors.New("else"), &ledger.Fault{}, &ledger.Fault{Why: errors.New("no batch")}, api.ErrForm, many{}, many{nil, nil}, like{note: []int{1}}, fmt.Errorf("no %w", nil)} {
		if e := ledger.Code(err); e != -1 {
			t.Errorf("P16.5: Code(%v) = %d, want -1", err, e)
		}
	}
	for i, row := range fixedErrors {
		for name, err := range map[string]error{
			"wrapped":        ledger.Wrap("x", i, row.number),
			"wrapped twice":  &ledger.Fault{Why: &ledger.Fault{Why: row.value}},
			"by the library": fmt.Errorf("far: %w", fmt.Errorf("near: %w", row.value)),
			"among others":   many{errors.New("a"), nil, many{fmt.Errorf("b: %w", row.value)}},
			"by itself":      like{what: row.value, note: []int{2}},
		} {
			if e := ledger.Code(err); e != row.number {
				t.Errorf("P16.5: %v, %s: Code = %d, want %d", row.value, name, e, row.number)
			}
		}
		for j, other := range fixedErrors {
			err := errors.Join(row.value, ledger.Wrap("x", 1, other.number))
			if e := ledger.Code(err); e != fixedErrors[min(i, j)].number {
				t.Errorf("P16.5: Code of %d and %d is %d", row.number, other.number, e)
			}
		}
	}
}

// P16.5: an error that is nested as deep as may be.
func TestCodeOfDeepError(t *testing.T) {
	err := error(ledger.ErrBase)
	for range 1 << 16 {
		err = &ledger.Fault{Why: err}
	}
	if e := ledger.Code(err); e != 191 {
		t.Errorf("P16.5: Code of a deep error is %d", e)
	}
	err = ledger.ErrTxn
	for range 1000 {
		err = &ledger.Fault{Place: ledger.Place{Call: "x", At: -1}, Why: err}
	}
	if err.Error() != strings.Repeat("x: ", 1000)+"no such transaction" {
		t.Error("P16.3: the text of a deep error")
	}
}
