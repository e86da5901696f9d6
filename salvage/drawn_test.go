package salvage_test

import (
	"bytes"
	"fmt"
	"math/rand/v2"
	"testing"

	"ledger/api"
	"ledger/index"
	"ledger/node"
	"ledger/salvage"
)

// P23.9: any bytes of any length: every call ends, and answers as the document reads.
func TestAnyBytes(t *testing.T) {
	t.Parallel()
	rnd := drawn(50)
	for i := range 400 {
		n := rnd.IntN(9 * 256)
		if i%2 == 0 {
			n = 256 * rnd.IntN(9)
		}
		image := noise(rnd, n)
		ask(t, fmt.Sprintf("P23.9: any bytes, round %d", i), image)
		for from := 0; from+64 < n && i%3 == 0; from += 64 {
			if rnd.IntN(2) == 0 {
				clear(image[from : from+64])
			}
		}
		ask(t, fmt.Sprintf("P23.9: any bytes and zeros, round %d", i), image)
	}
}

// drawnSuper tells some superblock, most of them valid.
func drawnSuper(rnd *rand.Rand, pages int) api.Super {
	s := api.Super{Width: pick(rnd, 1, 1, 1, 1, 4, 33), Generation: rnd.IntN(6), Pages: pages, Mark: 2 + rnd.IntN(pages)}
	s.Head = pick(rnd, 0, s.Mark-1, 2, rnd.IntN(s.Mark+1))
	if rnd.IntN(12) == 0 {
		s.Pages += pick(rnd, -1, 1, 5000)
	}
	return s
}

// drawnPage tells some page of a number, of those that a ledger might have and of such that none has.
func drawnPage(rnd *rand.Rand, page int) []byte {
	r := api.Record{Version: max(page-1-rnd.IntN(6)/5, 1), First: rnd.IntN(8) / 7, Root: rnd.IntN(8) / 7 * 2, Sum: node.Empty(1, api.Height)}
	if r.Root > 0 {
		r.Count = 1
	}
	if r.Version > max(r.First, 1) {
		r.Prev, r.Skip = page-1, pick(rnd, 0, page-1, r.Version&(r.Version-1)+1)
	}
	record, _ := index.Encode(r)
	leaf := append(make([]byte, 32), noise(rnd, rnd.IntN(9))...)
	leaf[0] = byte(rnd.IntN(4) << 6)
	switch rnd.IntN(16) {
	case 0:
		return noise(rnd, 256)
	case 1:
		return make([]byte, 256)
	case 2:
		return framed(rnd.IntN(5), page, noise(rnd, rnd.IntN(247)))
	case 3:
		return framed(1+rnd.IntN(3), page+rnd.IntN(2), leaf)
	case 4, 5:
		return framed(api.KindLeaf, page, leaf)
	default:
		return framed(api.KindRecord, page, record)
	}
}

// P23.3 to P23.9: drawn superblocks over drawn pages with right checksums, and bits turned in them.
func TestDrawnImages(t *testing.T) {
	for seed := range uint64(8) {
		t.Run(fmt.Sprint(seed), func(t *testing.T) {
			t.Parallel()
			rnd, stood := drawn(60+seed), 0
			for i := range 100 {
				pages := 3 + rnd.IntN(12)
				var image []byte
				for page := range pages {
					image = append(image, drawnPage(rnd, page)...)
				}
				one := drawnSuper(rnd, pages)
				two := pick(rnd, drawnSuper(rnd, pages), one, one)
				two.Generation = pick(rnd, one.Generation+1, two.Generation)
				if one.Generation%2 == 1 {
					one, two = two, one
				}
				image = supers(image, one, two)
				name := fmt.Sprintf("seed %d, round %d", seed, i)
				ask(t, name, image)
				spoilt, _ := spoil(rnd, image, pages)
				ask(t, name+", spoilt", spoilt)
				if _, last, _ := salvage.Whole(image); last > 0 {
					stood++
				}
			}
			if stood < 5 {
				t.Errorf("only %d images had a version", stood)
			}
		})
	}
}

// drawnStory makes drawn versions of few keys.
func drawnStory(t *testing.T, rnd *rand.Rand) history {
	t.Helper()
	var lists [][]api.Change
	for range 1 + rnd.IntN(9) {
		var cs []api.Change
		for _, n := range unlike(rnd, rnd.IntN(4), 8) {
			k := keyOf(fmt.Sprintf("%03b", n))
			if cs = append(cs, put(k, string(noise(rnd, pick(rnd, 0, 1, 128))))); rnd.IntN(3) == 0 {
				cs[len(cs)-1] = del(k)
			}
		}
		lists = append(lists, cs)
	}
	h := made(t, 150, pick(rnd, 1, 1, 2, 32), lists...)
	if rnd.IntN(3) == 0 {
		return shipped(t, 1+rnd.IntN(len(lists)), h)
	}
	return h
}

// P23.1 to P23.14, W11: drawn histories, spoilt by a bit a page, by up to three, by pages that are forged.
func TestDrawnHistories(t *testing.T) {
	for seed := range uint64(10) {
		t.Run(fmt.Sprint(seed), func(t *testing.T) {
			t.Parallel()
			rnd := drawn(80 + seed)
			for i := range 3 {
				h := drawnStory(t, rnd)
				name := fmt.Sprintf("seed %d, story %d", seed, i)
				number := rnd.IntN(len(h.images))
				x := h.images[number]
				h.isAt(t, name, x, number)
				mark := superOf(t, x).Mark
				var bits, pages []int
				for page := range mark {
					if rnd.IntN(2) == 0 {
						bits, pages = append(bits, page*pageBits+rnd.IntN(pageBits)), append(pages, page)
					}
				}
				mends(t, "P23.10: "+name, turned(x, bits...), x, api.OK, pages...)
				h.isSpoiltAt(t, "P23.12: "+name, rnd.Uint64(), x, number)
				h.isForged(t, name, rnd, x, mark)
			}
		})
	}
}

// isForged asks all of an image with a few forged pages and a few turned bits.
func (h history) isForged(t *testing.T, promise string, rnd *rand.Rand, image []byte, mark int) {
	t.Helper()
	if mark == 2 {
		return
	}
	for range 3 {
		forged := bytes.Clone(image)
		for range rnd.IntN(3) {
			page := 2 + rnd.IntN(mark-2)
			if forged = withPage(rnd, forged, page); rnd.IntN(2) == 0 {
				kind, was := load(t, image, 2+rnd.IntN(mark-2))
				forged = laid(forged, page, framed(kind, page, was))
			}
		}
		for range rnd.IntN(4) {
			forged = turned(forged, rnd.IntN(mark*pageBits))
		}
		ask(t, promise+", forged", forged)
	}
}
