package salvage_test

import (
	"bytes"
	"slices"
	"sync"
	"testing"

	"ledger/api"
	"ledger/salvage"
)

// scribble writes over a list, its spare room too.
func scribble(b []byte) {
	b = b[:cap(b)]
	for i := range b {
		b[i] ^= 0x5A
	}
}

// R5: what is handed out is new memory, its spare room too: nothing feels what is written into it, not the image that was handed in and no other answer.
func TestAnswersAreNew(t *testing.T) {
	h := made(t, 24, 4, story()...)
	x := h.newest()
	for name, image := range map[string][]byte{"clean": x, "a bit a page": turned(x, 8, pageBits+8, 2*pageBits+8), "a page lost": turned(x, twice(9)...)} {
		for what, call := range map[string]func() []byte{
			"Mend":    func() []byte { b, _, _ := salvage.Mend(image); return b },
			"Cut":     func() []byte { b, _ := salvage.Cut(image, -1); return b },
			"Cut(0)":  func() []byte { b, _ := salvage.Cut(image, 0); return b },
			"Rescue":  func() []byte { b, _, _ := salvage.Rescue(image); return b },
			"a twice": func() []byte { b, _, _ := salvage.Rescue(h.images[2]); return b },
		} {
			was := bytes.Clone(image)
			one, two := call(), call()
			want := bytes.Clone(two)
			if !bytes.Equal(one, two) {
				t.Errorf("R6: %s, %s: two calls answer unlike", name, what)
			}
			scribble(one)
			if !bytes.Equal(two, want) || !bytes.Equal(call(), want) {
				t.Errorf("R5: %s, %s: two answers share memory", name, what)
			}
			if !bytes.Equal(image, was) {
				t.Errorf("R5: %s, %s: an answer shares memory with the image", name, what)
			}
		}
	}
	spoilt := turned(x, 8, 5*pageBits, 9*pageBits)
	_, one, _ := salvage.Mend(spoilt)
	_, two, _ := salvage.Mend(spoilt)
	clear(one[:cap(one)])
	if !slices.Equal(two, []int{0, 5, 9}) {
		t.Errorf("R5: two lists of pages share memory: %v", two)
	}
}

// R5: an image with no room behind it, and a piece of a longer one: what lies around it is neither read nor changed.
func TestPiecesOfImages(t *testing.T) {
	h := made(t, 24, 4, story()...)
	x := h.newest()
	around := slices.Concat(x, turned(x, 2*pageBits+5), x)
	was := bytes.Clone(around)
	piece := around[len(x) : 2*len(x)]
	if b, pages, e := salvage.Mend(piece); e != api.OK || !bytes.Equal(b, x) || !slices.Equal(pages, []int{2}) {
		t.Errorf("R5: Mend of a piece: pages %v, %v", pages, e)
	}
	if b, v, e := salvage.Rescue(piece); e != api.OK || v != 7 || !bytes.Equal(b, x) {
		t.Errorf("R5: Rescue of a piece: %d, %v", v, e)
	}
	if b, e := salvage.Cut(around[:len(x)], 3); e != api.OK || !bytes.Equal(b, h.images[3]) {
		t.Errorf("R5: Cut of a piece: %v", e)
	}
	if !bytes.Equal(around, was) {
		t.Error("R5: what lies around an image has changed")
	}
}

// R6: nothing is kept from call to call: images of many goroutines at once, and one image of all, are answered as if each came alone.
func TestManyAtOnce(t *testing.T) {
	h := made(t, 24, 4, story()...)
	x := h.newest()
	var group sync.WaitGroup
	for worker := range 8 {
		group.Add(1)
		go func() {
			defer group.Done()
			for i := range 20 {
				bit := 2*pageBits + worker*1999 + i*577
				image := turned(x, bit, worker*9)
				b, pages, e := salvage.Mend(image)
				if e != api.OK || !bytes.Equal(b, x) || !slices.Equal(pages, []int{0, bit / pageBits}) {
					t.Errorf("R6: Mend: pages %v, %v", pages, e)
				}
				if b, e := salvage.Cut(x, worker%8); e != api.OK || !bytes.Equal(b, h.images[worker%8]) {
					t.Errorf("R6: Cut: %v", e)
				}
				if b, v, e := salvage.Rescue(x); e != api.OK || v != 7 || !bytes.Equal(b, x) {
					t.Errorf("R6: Rescue: %d, %v", v, e)
				}
			}
		}()
	}
	group.Wait()
}
