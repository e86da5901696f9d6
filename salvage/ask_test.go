package salvage_test

import (
	"bytes"
	"slices"
	"strconv"
	"testing"

	"ledger/api"
	"ledger/audit"
	"ledger/disk"
	"ledger/ledger"
	"ledger/salvage"
)

// lent is an image that is handed in with spare room behind it.
type lent struct {
	room, was []byte
	image     []byte
}

// lend copies an image for one call; nil stays nil.
func lend(image []byte) *lent {
	l := &lent{room: append(bytes.Clone(image), "the spare room behind it"...)}
	l.was = bytes.Clone(l.room)
	if image != nil {
		l.image = l.room[:len(image)]
	}
	return l
}

// back asks that a call has not changed what was lent, and scribbles over it: what was answered must not feel that.
func (l *lent) back(t *testing.T, promise string) {
	t.Helper()
	if !bytes.Equal(l.room, l.was) {
		t.Errorf("%s: R5: the image that was handed in has changed", promise)
	}
	for i := range l.room {
		l.room[i] ^= 0xA5
	}
}

// mends asks for what Mend answers.
func mends(t *testing.T, promise string, image, want []byte, why api.Errno, pages ...int) {
	t.Helper()
	l := lend(image)
	b, changed, e := salvage.Mend(l.image)
	l.back(t, promise)
	if e != why || !bytes.Equal(b, want) || !slices.Equal(changed, pages) {
		t.Errorf("%s: Mend = %s, pages %v, %v, want %s, pages %v, %v", promise, some(b), changed, e, some(want), pages, why)
	}
	if e != api.OK && (b != nil || changed != nil) {
		t.Errorf("%s: R4: Mend answers something beside an error", promise)
	}
}

// wholes asks for what Whole answers.
func wholes(t *testing.T, promise string, image []byte, first, last int, why api.Errno) {
	t.Helper()
	l := lend(image)
	a, b, e := salvage.Whole(l.image)
	l.back(t, promise)
	if a != first || b != last || e != why {
		t.Errorf("%s: Whole = %d, %d, %v, want %d, %d, %v", promise, a, b, e, first, last, why)
	}
}

// cuts asks for what Cut answers.
func cuts(t *testing.T, promise string, image []byte, version int, want []byte, why api.Errno) {
	t.Helper()
	l := lend(image)
	b, e := salvage.Cut(l.image, version)
	l.back(t, promise)
	if e != why || !bytes.Equal(b, want) || e != api.OK && b != nil {
		t.Errorf("%s: Cut(%d) = %s, %v, want %s, %v", promise, version, some(b), e, some(want), why)
	}
}

// rescues asks for what Rescue answers, and for all that follows of it.
func rescues(t *testing.T, promise string, image, want []byte, version int, why api.Errno) {
	t.Helper()
	l := lend(image)
	b, v, e := salvage.Rescue(l.image)
	l.back(t, promise)
	if e != why || v != version || !bytes.Equal(b, want) || e != api.OK && b != nil {
		t.Errorf("%s: Rescue = %s, %d, %v, want %s, %d, %v", promise, some(b), v, e, some(want), version, why)
	}
	if e == api.OK {
		sound(t, promise, b, v)
	}
}

// sound asks P23.13 of what Rescue has answered.
func sound(t *testing.T, promise string, image []byte, version int) {
	t.Helper()
	r, e := audit.Check(image)
	if e != api.OK || len(r.Findings) > 0 || r.Last != version {
		t.Errorf("%s: P23.13: Check of what is rescued = %+v, %v, want version %d", promise, r, e, version)
		return
	}
	d, e := disk.Load(image)
	if e != api.OK {
		t.Fatal(e)
	}
	l, err := ledger.Open(d, 4)
	if err != nil {
		t.Errorf("%s: P23.13: Open of what is rescued: %v", promise, err)
		return
	}
	if info, err := l.Info(); err != nil || info.First != r.First || info.Last != version {
		t.Errorf("%s: P23.13: Info of what is rescued = %+v, %v, want version %d", promise, info, err, version)
	}
	if b, v, e := salvage.Rescue(image); e != api.OK || v != version || !bytes.Equal(b, image) {
		t.Errorf("%s: P23.13: Rescue of what is rescued = %s, %d, %v", promise, some(b), v, e)
	}
	if b, e := salvage.Cut(image, -1); e != api.OK || !bytes.Equal(b, image) {
		t.Errorf("%s: P23.13: Cut(-1) of what is rescued = %s, %v", promise, some(b), e)
	}
}

// refusesAll asks that all four refuse an image with one error, whatever version is asked for.
func refusesAll(t *testing.T, promise string, image []byte, why api.Errno) {
	t.Helper()
	mends(t, promise, image, nil, why)
	refusesCuts(t, promise, image, why)
	rescues(t, promise, image, nil, 0, why)
}

// refusesCuts asks that Whole and Cut refuse an image with one error.
func refusesCuts(t *testing.T, promise string, image []byte, why api.Errno) {
	t.Helper()
	wholes(t, promise, image, 0, 0, why)
	for _, v := range []int{lowest, -2, -1, 0, 1, 2, highest} {
		cuts(t, promise, image, v, nil, why)
	}
}

// ask makes each call, and holds it to the reading.
func ask(t *testing.T, promise string, image []byte) {
	t.Helper()
	b, pages, e := readMend(image)
	mends(t, promise+": P23.5", image, b, e, pages...)
	x, e := readWhole(image)
	if e != api.OK {
		refusesCuts(t, promise+": P23.6", image, e)
	} else {
		wholes(t, promise+": P23.6", image, x.first, x.last, api.OK)
		for _, v := range []int{-2, -1, 0, x.first - 1, x.first, (x.first + x.last) / 2, x.last, x.last + 1, highest} {
			b, e := x.readCut(v)
			cuts(t, promise+": P23.7", image, v, b, e)
		}
	}
	b, v, e := readRescue(image)
	rescues(t, promise+": P23.8", image, b, v, e)
}

// some tells what an image is, short.
func some(image []byte) string {
	if image == nil {
		return "nothing"
	}
	used := ""
	for page := range len(image) / 256 {
		if b := image[256*page : 256*page+256]; !bytes.Equal(b, make([]byte, 256)) {
			used += " " + strconv.Itoa(page)
		}
	}
	return strconv.Itoa(len(image)) + " bytes (not zero:" + used + ")"
}

// ofCut tells what Cut answers of a version that is there.
func ofCut(t *testing.T, image []byte, version int) []byte {
	t.Helper()
	b, e := salvage.Cut(image, version)
	if e != api.OK {
		t.Fatalf("Cut(%d) = %v", version, e)
	}
	return b
}
