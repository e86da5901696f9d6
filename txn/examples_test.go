package txn_test

import (
	"errors"
	"fmt"
	"testing"

	"ledger/api"
	"ledger/disk"
	"ledger/ledger"
	"ledger/txn"
)

// example is the ledger of the chapter's examples, which go on from one to the next.
type example struct {
	*testing.T
	row int
	m   *txn.Manager
}

func (x *example) refused(err, why error, words string) {
	x.Helper()
	if !errors.Is(err, why) || words != "" && err.Error() != words {
		x.Errorf("example %d: %v, want %v (%s)", x.row, err, why, words)
	}
}

func (x *example) begins(want int) {
	x.Helper()
	if id, err := x.m.Begin(); id != want || err != nil {
		x.Errorf("example %d: Begin() = %d, %v, want %d", x.row, id, err, want)
	}
}

func (x *example) writes(id int, c api.Change) {
	x.Helper()
	if err := x.m.Write(id, c); err != nil {
		x.Errorf("example %d: Write(%d, ..) = %v", x.row, id, err)
	}
}

// reads asks that a key has a value, or, of "-", none.
func (x *example) reads(id int, k api.Key, want string) {
	x.Helper()
	a, err := x.m.Read(id, k[:])
	if got := valueOf(a); got != want || err != nil {
		x.Errorf("example %d: Read(%d, ..) = %q, %v, want %q", x.row, id, got, err, want)
	}
}

func valueOf(a api.Answer) string {
	if !a.Found {
		return "-"
	}
	return string(a.Val)
}

func (x *example) ranges(id int, want string) {
	x.Helper()
	list, err := x.m.Range(id, low[:], high[:])
	got := ""
	for _, e := range list {
		got += string(e.Val)
	}
	if got != want || err != nil {
		x.Errorf("example %d: Range(%d, ..) = %q, %v, want %q", x.row, id, got, err, want)
	}
}

func (x *example) finishes(id, want int) {
	x.Helper()
	if version, err := x.m.Finish(id); version != want || err != nil {
		x.Errorf("example %d: Finish(%d) = %d, %v, want %d", x.row, id, version, err, want)
	}
}

func (x *example) conflicts(id int) {
	x.Helper()
	version, err := x.m.Finish(id)
	if version != 0 {
		x.Errorf("example %d: Finish(%d) = %d", x.row, id, version)
	}
	x.refused(err, ledger.ErrConflict, fmt.Sprintf("finish at %d: what was read has changed", id))
}

func (x *example) commits(want int, c api.Change) {
	x.Helper()
	if version, err := x.m.Commit(raw(c)); version != want || err != nil {
		x.Errorf("example %d: Commit = %d, %v, want %d", x.row, version, err, want)
	}
}

func (x *example) opens(want string) {
	x.Helper()
	if got := fmt.Sprint(x.m.Open()); got != want {
		x.Errorf("example %d: Open() = %s, want %s", x.row, got, want)
	}
}

func (x *example) holds(k api.Key, want string) {
	x.Helper()
	if a, err := x.m.Get(k[:], api.Newest); valueOf(a) != want || err != nil {
		x.Errorf("example %d: the newest version holds %q, %v, want %q", x.row, valueOf(a), err, want)
	}
}

// exampled makes the ledger of the examples: width 32, 400 pages.
func exampled(t *testing.T) *example {
	t.Helper()
	d, e := disk.New(400)
	if e != api.OK {
		t.Fatal(e)
	}
	l, err := ledger.Create(d, 32, 8)
	if err != nil {
		t.Fatal(err)
	}
	return &example{t, 0, txn.New(l)}
}

// Every row of the chapter's examples, from the first to the eighth one behind the other.
func TestExamples(t *testing.T) {
	x := exampled(t)
	x.rowsOfRefusals()
	x.rowsOfConflicts()
	x.rowsOfSkew()
	x.rowsOfReturn()
}

func (x *example) rowsOfRefusals() {
	x.row = 1
	_, err := x.m.Read(1, keyK[:])
	x.refused(err, ledger.ErrTxn, "read at 1: no such transaction")
	_, err = x.m.Read(1, keyK[:31])
	x.refused(err, ledger.ErrKey, "")
	_, err = x.m.Range(1, keyQ[:], keyK[:])
	x.refused(err, ledger.ErrRange, "")

	x.row = 2
	x.begins(1)
	x.begins(2)
	x.opens("[1 2]")
	x.writes(1, put(keyK, "a"))
	x.reads(1, keyK, "a")
	x.reads(2, keyK, "-")
	x.finishes(1, 1)
	x.reads(2, keyK, "-")
	x.opens("[2]")
}

func (x *example) rowsOfConflicts() {
	x.row = 3
	x.writes(2, put(keyK, "b"))
	x.conflicts(2)
	x.opens("[]")
	_, err := x.m.Finish(2)
	x.refused(err, ledger.ErrTxn, "finish at 2: no such transaction")

	x.row = 4
	x.begins(3)
	x.writes(3, put(keyK, "c"))
	x.commits(2, put(keyK, "d"))
	x.finishes(3, 3)
	x.holds(keyK, "c")
}

func (x *example) rowsOfSkew() {
	x.row = 5
	x.begins(4)
	x.begins(5)
	x.reads(4, keyK, "c")
	x.writes(4, put(keyQ, "4"))
	x.reads(5, keyQ, "-")
	x.writes(5, put(keyK, "5"))
	x.finishes(4, 4)
	x.conflicts(5)

	x.row = 6
	x.commits(5, api.Change{Key: keyQ, Del: true})
	x.begins(6)
	x.ranges(6, "c") // one entry
	x.commits(6, put(keyQ, "phantom"))
	x.conflicts(6)
}

func (x *example) rowsOfReturn() {
	x.row = 7
	x.begins(7)
	x.reads(7, keyK, "c")
	x.commits(7, put(keyK, "x"))
	x.commits(8, put(keyK, "c"))
	x.finishes(7, 8)

	x.row = 8
	x.begins(8)
	x.writes(8, put(keyK, "e"))
	x.ranges(8, "ephantom")
	x.writes(8, api.Change{Key: keyK, Del: true})
	x.reads(8, keyK, "-")
	x.ranges(8, "phantom")
	x.finishes(8, 9)
	x.holds(keyK, "-")
}

// The ninth and the tenth row.
func TestExamplesOfMany(t *testing.T) {
	x := exampled(t)
	x.row = 9
	x.begins(1)
	for i := range 64 {
		x.writes(1, put(key(4*i), "v"))
	}
	x.refused(x.m.Write(1, put(key(1), "v")), ledger.ErrMany, "write at 1: too many changes")
	x.writes(1, put(key(4), "w"))
	x.finishes(1, 1)
	x.holds(key(4), "w")

	x = exampled(t)
	x.row = 10
	for i := range 32 {
		x.begins(i + 1)
	}
	_, err := x.m.Begin()
	x.refused(err, ledger.ErrMany, "begin: too many changes")
	if err := x.m.Abort(17); err != nil {
		t.Error(err)
	}
	x.begins(33)
}
