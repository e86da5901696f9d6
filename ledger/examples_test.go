package ledger_test

import (
	"bytes"
	"errors"
	"testing"

	"ledger/api"
	"ledger/ledger"
	"ledger/node"
)

// The rows of the chapter's examples, by their numbers.

// says asks for a refusal's text and the fixed error in it.
func (r *rig) says(err, why error, text string) {
	r.Helper()
	if !errors.Is(err, why) || err.Error() != text {
		r.fails("%v, want %q", err, text)
	}
}

// uses asks for the pages in use.
func (r *rig) uses(want int) {
	r.Helper()
	if i, err := r.l.Info(); i.Used != want || err != nil {
		r.fails("Used is %d, %v, want %d", i.Used, err, want)
	}
}

// example1 goes through the first example and gives the ledger of all others.
func example1(t *testing.T) *rig {
	t.Helper()
	d := blank(t, 16)
	r := &rig{T: t, promise: "example 1", d: d, room: 8}
	none, err := ledger.Open(d, 8)
	r.says(err, ledger.ErrBlank, "open: nothing is laid here")
	if none != nil {
		r.fails("a ledger and an error")
	}
	none, err = ledger.Create(d, 0, 8)
	r.says(err, ledger.ErrArg, "create: a number that may not be")
	if none != nil {
		r.fails("a ledger and an error")
	}
	if r.l, err = ledger.Create(d, 4, 8); err != nil || r.l == nil {
		t.Fatal(err)
	}
	_, err = ledger.Create(d, 4, 8)
	r.says(err, ledger.ErrTaken, "create: there is something already")
	if r.l.Live() != nil {
		r.fails("the first ledger is not live")
	}
	r.m = &model{width: 4, pages: 16, used: 2, maps: []entries{{}}}
	return r
}

// commitsAt asks that a Commit answers a version and uses the pages up to a mark.
func (r *rig) commitsAt(version, used int, cs ...api.Change) {
	r.Helper()
	if v, err := r.l.Commit(raw(cs...)); v != version || err != nil {
		r.fails("Commit = %d, %v, want %d", v, err, version)
	}
	r.m.commit(cs)
	r.uses(used)
}

func TestExamples(t *testing.T) {
	r := example1(t)

	r.promise = "example 2"
	if i, err := r.l.Info(); i != (api.Info{Width: 4, Used: 2, Pages: 16, Sum: node.Empty(4, 256)}) || err != nil {
		r.fails("%+v, %v", i, err)
	}
	for _, v := range []int{0, -1} {
		if a, err := r.l.Get(keyK[:], v); a.Found || a.Val != nil || err != nil {
			r.fails("%+v, %v", a, err)
		}
	}
	_, err := r.l.Get(keyK[:], 1)
	r.says(err, ledger.ErrVersion, "get at 1: no such version yet")
	_, err = r.l.Get(keyK[:], -2)
	r.says(err, ledger.ErrVersion, "get at -2: no such version yet")
	_, err = r.l.Get(keyK[:31], 9)
	r.says(err, ledger.ErrKey, "get at 9: not a key's bytes")

	r.promise = "example 3"
	r.commitsAt(1, 4, put(keyK, "a"))
	if image := r.d.Image(); image[512] != 1 || image[768] != 3 {
		r.fails("page 2 is of kind %d, page 3 of kind %d", image[512], image[768])
	}
	was, _ := r.l.Root(1)
	if sum, n, err := r.l.Preview(raw()); sum != was || n != 1 || err != nil {
		r.fails("%x, %d, %v", sum, n, err)
	}
	r.commitsAt(2, 5)

	r.promise = "example 4"
	r.commitsAt(3, 6, put(keyK, "a"))
	r.commitsAt(4, 8, put(keyK, "b"))
	for v, want := range map[int]string{3: "a", 4: "b"} {
		if a, err := r.l.Get(keyK[:], v); !a.Found || string(a.Val) != want || err != nil {
			r.fails("%+v, %v", a, err)
		}
	}
	for ends, want := range map[[2]int][]api.Change{{1, 4}: {put(keyK, "b")}, {4, 0}: {del(keyK)}, {1, 3}: nil} {
		if cs, err := r.l.Diff(ends[0], ends[1]); !sameChanges(cs, want) || err != nil {
			r.fails("Diff(%d, %d) = %v, %v", ends[0], ends[1], cs, err)
		}
	}

	r.promise = "example 5"
	_, err = r.l.Commit(raw(put(keyM, "x")))
	r.says(err, ledger.ErrFull, "commit at 5: no page is left")
	r.uses(8)
	r.asks(keyK, keyM)
	exampleOfManyPages(t, 266, 5, nil)
	exampleOfManyPages(t, 265, 0, ledger.ErrFull)

	r.promise = "example 6"
	r.commitsAt(5, 11, put(keyQ, "y"))
	r.commitsAt(6, 12, del(keyK))
	if image := r.d.Image(); image[256*8] != 1 || image[256*9] != 2 || image[256*10] != 3 || image[256*11] != 3 || image[256*11+6+16] != 8 {
		r.fails("the pages 8 to 11 are others")
	}

	r.promise = "example 7"
	_, err = r.l.Commit(nil)
	r.says(err, ledger.ErrForm, "commit at 7: no batch")
	_, _, err = r.l.Scan(keyK[:], keyM[:], 0, -1)
	r.says(err, ledger.ErrRange, "scan at 0: the low end lies above the high end")
	_, _, err = r.l.Scan(keyM[:], keyK[:], 99, -1)
	r.says(err, ledger.ErrArg, "scan at 99: a number that may not be")
	_, _, err = r.l.Scan(keyM[:], keyK[:], 99, 5)
	r.says(err, ledger.ErrVersion, "scan at 99: no such version yet")

	r.promise = "example 8"
	r.d.Arm(1)
	_, err = r.l.Commit(raw(put(keyK, "c")))
	r.says(err, ledger.ErrDown, "commit at 7: the disk has no power")
	_, err = r.l.Get(keyK[:], -1)
	r.says(err, ledger.ErrDown, "get: the disk has no power")
	r.d.Crash(nil)
	_, err = r.l.Get(keyK[:], -1)
	r.says(err, ledger.ErrStale, "get: older than the last crash")
	r.open(1)
	r.asks(keyK, keyM, keyQ)
}

// exampleOfManyPages goes through the examples 1 to 5 on another disk.
func exampleOfManyPages(t *testing.T, pages, version int, why error) {
	t.Helper()
	r := begun(t, "example 5", pages, 4, 8)
	r.commits(put(keyK, "a"))
	r.commits()
	r.commits(put(keyK, "a"))
	r.commits(put(keyK, "b"))
	v, err := r.l.Commit(raw(put(keyM, "x")))
	if v != version || !errors.Is(err, why) {
		r.fails("Commit on a disk of %d pages = %d, %v", pages, v, err)
	}
	if why == nil {
		r.uses(266)
	}
}

// The rows of the first page's examples, by their numbers: bytes and digests as they stand there.

// begins asks that a digest is these bytes and zeros behind them.
func (r *rig) begins(got api.Digest, want ...byte) {
	r.Helper()
	if got != api.Digest(append(want, make([]byte, 32-len(want))...)) {
		r.fails("%x, want %x and zeros", got, want)
	}
}

// carries asks for the bytes of a page: what it begins with, zeros, and what it ends with.
func (r *rig) carries(page int, front []byte, back ...byte) {
	r.Helper()
	want := make([]byte, 256)
	copy(want, front)
	copy(want[256-len(back):], back)
	if got := r.d.Image()[256*page : 256*page+256]; !bytes.Equal(got, want) {
		r.fails("page %d is %v, want %v", page, got, want)
	}
}

// joined joins numbers and texts to one row of bytes.
func joined(parts ...any) (b []byte) {
	for _, p := range parts {
		switch x := p.(type) {
		case int:
			b = append(b, byte(x))
		case []byte:
			b = append(b, x...)
		case string:
			b = append(b, x...)
		}
	}
	return b
}

// four tells a number as four bytes.
func four(n int) []byte { return []byte{byte(n), byte(n >> 8), byte(n >> 16), byte(n >> 24)} }

func rootAt(r *rig, version int) api.Digest {
	r.Helper()
	sum, err := r.l.Root(version)
	if err != nil {
		r.fails("Root(%d): %v", version, err)
	}
	return sum
}

// whole5 goes through the first page's examples 1 to 5.
func whole5(t *testing.T) *rig {
	t.Helper()
	r := begun(t, "DOC example 1", 16, 4, 8)
	r.begins(rootAt(r, 0), 0x2d, 0x21, 0x47, 0x3a)
	r.carries(0, joined("LDG1", 4, 0, 0, 0, four(0), four(0), four(2), four(0), four(16), make([]byte, 32), r.d.Image()[60:64]))
	r.carries(1, joined("LDG1", 4, 0, 0, 0, four(1), four(0), four(2), four(0), four(16), make([]byte, 32), r.d.Image()[256+60:256+64]))

	r.promise = "DOC example 2"
	b := joined(1, 0, 1, keyK[:], 1, 0, "a")
	if v, err := r.l.Commit(b); v != 1 || err != nil {
		r.fails("%d, %v", v, err)
	}
	r.m.commit([]api.Change{put(keyK, "a")})
	r.carries(2, joined(1, 33, 2, 0, 0, 0, keyK[:], "a"), 64, 129, 159, 165)
	r.begins(rootAt(r, 1), 0xd5, 0xf5, 0xc4, 0xcd)
	sum := joined(213, 245, 196, 205, make([]byte, 28))
	r.carries(3, joined(3, 56, 3, 0, 0, 0, four(1), four(0), four(0), four(0), four(2), four(1), sum), 201, 179, 8, 32)

	r.promise = "DOC example 3"
	r.carries(0, joined("LDG1", 4, 0, 0, 0, four(2), four(0), four(4), four(3), four(16), make([]byte, 32), 234, 46, 220, 231))

	r.promise = "DOC example 4"
	r.commits(put(keyQ, "bc"))
	r.carries(4, joined(1, 34, 4, 0, 0, 0, keyQ[:], "bc"), 41, 87, 75, 193)
	left, right := joined(16, 218, 130, 142, make([]byte, 28)), joined(134, 166, 168, 123, make([]byte, 28))
	r.carries(5, joined(2, 80, 5, 0, 0, 0, four(2), four(4), four(1), four(1), left, right), 25, 186, 178, 119)
	r.begins(rootAt(r, 2), 0x6a, 0xf6, 0xd3, 0x28)
	x := read(r.d.Image())
	if got := x.record(6); got != (api.Record{Version: 2, Prev: 3, Root: 5, Count: 2, Sum: rootAt(r, 2)}) {
		r.fails("the record is %+v", got)
	}

	r.promise = "DOC example 5"
	r.commits(del(keyK))
	r.begins(rootAt(r, 3), 0x58, 0x7a, 0x6d, 0x0e)
	x = read(r.d.Image())
	if got := x.record(7); got != (api.Record{Version: 3, Prev: 6, Skip: 6, Root: 4, Count: 1, Sum: rootAt(r, 3)}) {
		r.fails("the record is %+v", got)
	}
	r.uses(8)
	return r
}

func TestExamplesOfTheWhole(t *testing.T) {
	r := whole5(t)
	r.promise = "DOC example 6"
	for v, want := range map[int]string{2: "a", 3: "", -1: ""} {
		if a, err := r.l.Get(keyK[:], v); a.Found != (want != "") || string(a.Val) != want || err != nil {
			r.fails("%+v, %v", a, err)
		}
	}
	if cs, err := r.l.Diff(1, 3); !sameChanges(cs, []api.Change{del(keyK), put(keyQ, "bc")}) || err != nil {
		r.fails("%v, %v", cs, err)
	}
	if list, more, err := r.l.Scan(keyK[:], keyQ[:], 2, 10); !sameEntries(list, []api.Entry{{Key: keyK, Val: []byte("a")}, {Key: keyQ, Val: []byte("bc")}}) || more || err != nil {
		r.fails("%v, %t, %v", list, more, err)
	}

	r.promise = "DOC example 7"
	bitmap, beside := joined(make([]byte, 31), 128), joined(0x86, 0xa6, 0xa8, 0x7b, make([]byte, 28))
	for v, want := range map[int][]byte{2: joined(1, 1, 0, "a", bitmap, beside), 3: joined(0, bitmap, beside)} {
		if p, err := r.l.Prove(keyK[:], v); !bytes.Equal(p, want) || err != nil {
			r.fails("Prove at %d: %v, %v", v, p, err)
		}
	}

	wide := begun(t, "DOC example 1", 3, 32, 1)
	r.begins(rootAt(wide, -1), 0x9b, 0x97, 0x51, 0x7f, 0x25, 0x14, 0x07, 0x62, 0xb9, 0xe1, 0x87, 0xba, 0xe2, 0x3a, 0x31, 0xab, 0x78, 0xa4, 0x23, 0x03, 0x54, 0xde, 0xce, 0x72, 0x0b, 0xbb, 0xef, 0xcf, 0xce, 0x8d, 0xe5, 0xa0)
}

// DOC examples 9 and 10: power goes at the first sync, or with the superblock's write.
func TestExamplesOfACrash(t *testing.T) {
	r := whole5(t)
	r.promise = "DOC example 9"
	r.d.Arm(4)
	_, err := r.l.Commit(raw(put(keyK, "z")))
	r.says(err, ledger.ErrDown, "commit at 4: the disk has no power")
	if n := r.d.Crash([]byte{15, 15, 15}); n != 3 {
		r.fails("%d writes were open", n)
	}
	if x := read(r.d.Image()); x.record(10).Version != 4 {
		r.fails("page 10 has not reached the disk")
	}
	r.open(8)
	r.asks(keyK, keyQ)
	r.commits(put(keyM, "w"))
	r.asks(keyK, keyQ)

	for fate := range byte(16) {
		r := whole5(t)
		r.promise = "DOC example 10"
		r.d.Arm(5)
		_, err := r.l.Commit(raw(put(keyK, "z")))
		r.says(err, ledger.ErrDown, "commit at 4: the disk has no power")
		if n := r.d.Crash([]byte{fate}); n != 1 {
			r.fails("%d writes were open", n)
		}
		if fate%2 == 1 {
			r.m.commit([]api.Change{put(keyK, "z")})
		}
		r.open(8)
		r.asks(keyK, keyQ)
	}
}
