package salvage_test

import (
	"testing"

	"ledger/api"
)

// theX makes the image of the chapter's examples, and those that were there ahead of it.
func theX(t *testing.T) (x []byte, h history) {
	t.Helper()
	h = made(t, 16, 4, list(put(keyK, "a")), list(put(keyK, "b")))
	return h.newest(), h
}

func TestExample1(t *testing.T) {
	x, h := theX(t)
	mends(t, "1", x, x, api.OK)
	wholes(t, "1", x, 0, 2, api.OK)
	cuts(t, "1", x, 2, x, api.OK)
	cuts(t, "1", x, -1, x, api.OK)
	cuts(t, "1", x, 1, h.images[1], api.OK)
	cuts(t, "1", x, 0, h.images[0], api.OK)
	cuts(t, "1", x, 3, nil, api.ErrVersion)
	cuts(t, "1", x, -2, nil, api.ErrVersion)
	by := laid(laid(x, 4, make([]byte, 256)), 5, make([]byte, 256))
	by = supers(by, api.Super{Width: 4, Generation: 2, Mark: 4, Head: 3, Pages: 16}, api.Super{Width: 4, Generation: 1, Mark: 2, Pages: 16})
	cuts(t, "1: by its bytes", x, 1, by, api.OK)
}

func TestExample2(t *testing.T) {
	x, _ := theX(t)
	spoilt := turned(x, 2*pageBits+40*8+5, 5*pageBits+254*8+1, pageBits+100*8)
	mends(t, "2", spoilt, x, api.OK, 1, 2, 5)
	wholes(t, "2", spoilt, 0, 0, api.OK)
	rescues(t, "2", spoilt, x, 2, api.OK)
}

func TestExample3(t *testing.T) {
	x, h := theX(t)
	spoilt := turned(x, twice(4)...)
	mends(t, "3", spoilt, spoilt, api.OK)
	wholes(t, "3", spoilt, 0, 1, api.OK)
	cuts(t, "3", spoilt, 2, nil, api.ErrVersion)
	rescues(t, "3", spoilt, h.images[1], 1, api.OK)
}

func TestExample4(t *testing.T) {
	x, h := theX(t)
	spoilt := turned(x, twice(2)...)
	wholes(t, "4", spoilt, 0, 0, api.OK)
	rescues(t, "4", spoilt, h.images[0], 0, api.OK)
}

func TestExample5(t *testing.T) {
	x, h := theX(t)
	spoilt := turned(x, twice(1)...)
	mends(t, "5", spoilt, nil, api.ErrCorrupt)
	wholes(t, "5", spoilt, 0, 0, api.ErrCorrupt)
	cuts(t, "5", spoilt, 1, nil, api.ErrCorrupt)
	rescues(t, "5", spoilt, h.images[1], 1, api.OK)
	rescues(t, "5: page 0's instead", turned(x, twice(0)...), x, 2, api.OK)
}

func TestExample6(t *testing.T) {
	x, _ := theX(t)
	refusesAll(t, "6", turned(x, append(twice(0), twice(1)...)...), api.ErrCorrupt)
}

func TestExample7(t *testing.T) {
	refusesAll(t, "7", make([]byte, 768), api.ErrBlank)
	refusesAll(t, "7", make([]byte, 700), api.ErrSize)
	refusesAll(t, "7", nil, api.ErrPages)
}

func TestExample8(t *testing.T) {
	x, _ := theX(t)
	spoilt := laid(x, 9, noise(drawn(8), 256))
	mends(t, "8", spoilt, spoilt, api.OK)
	cuts(t, "8", spoilt, 2, x, api.OK)
}

func TestExample9(t *testing.T) {
	x, _ := theX(t)
	_, other := load(t, x, 3)
	spoilt := laid(x, 5, framed(api.KindRecord, 5, other))
	mends(t, "9", spoilt, spoilt, api.OK)
	wholes(t, "9", spoilt, 0, 1, api.OK)
}
