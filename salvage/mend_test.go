package salvage_test

import (
	"bytes"
	"fmt"
	"math/rand/v2"
	"slices"
	"testing"

	"ledger/api"
	"ledger/salvage"
)

// heals asks Mend for an image and its pages, without all that mends asks: it is made often.
func heals(t *testing.T, promise string, image, want []byte, pages ...int) {
	t.Helper()
	b, changed, e := salvage.Mend(image)
	if e != api.OK || !bytes.Equal(b, want) || !slices.Equal(changed, pages) {
		t.Errorf("%s: Mend = %s, pages %v, %v, want pages %v", promise, some(b), changed, e, pages)
	}
}

// P23.1, P23.10: each of the 2048 bits of each used page, those of the checksum among them, by itself.
func TestEachBitOfAPage(t *testing.T) {
	h := made(t, 24, 4, story()...)
	x, mark := h.newest(), h.super(t).Mark
	for page := 2; page < mark; page++ {
		t.Run(fmt.Sprint(page), func(t *testing.T) {
			t.Parallel()
			for bit := range pageBits {
				heals(t, fmt.Sprintf("P23.10: bit %d", bit), turned(x, page*pageBits+bit), x, page)
			}
		})
	}
}

// P23.1, P23.2, P23.10: each of the 512 bits of each slot's first sector by itself, and each behind it.
func TestEachBitOfASlot(t *testing.T) {
	h := made(t, 24, 4, story()...)
	for number := 6; number <= 7; number++ { // the newer one lies in each of the two once
		x := h.images[number]
		for slot := range 2 {
			t.Run(fmt.Sprint(number, slot), func(t *testing.T) {
				t.Parallel()
				for bit := range pageBits {
					heals(t, fmt.Sprintf("P23.10: bit %d of slot %d", bit, slot), turned(x, slot*pageBits+bit), x, slot)
				}
			})
		}
	}
}

// P23.2: bits behind a slot's first sector, however many, are made zero, where the sector stands or is mended.
func TestBehindTheSector(t *testing.T) {
	h := made(t, 24, 4, story()...)
	x, rnd := h.newest(), drawn(3)
	for range 40 {
		image := bytes.Clone(x)
		copy(image[64:256], noise(rnd, 192))
		mends(t, "P23.2: slot 0", image, x, api.OK, 0)
		copy(image[256+64:512], noise(rnd, 192))
		mends(t, "P23.2: both slots", image, x, api.OK, 0, 1)
		bits := []int{rnd.IntN(sectorBits), pageBits + rnd.IntN(sectorBits)}
		mends(t, "P23.2: both slots, a bit in each sector", turned(image, bits...), x, api.OK, 0, 1)
		wholes(t, "P23.6: what lies behind the sectors is nobody's", image, 0, 7, api.OK)
		cuts(t, "P23.7: what lies behind the sectors is nobody's", image, 7, x, api.OK)
		refusesCuts(t, "P23.6: nothing is mended", turned(image, bits...), api.ErrCorrupt)
	}
	for _, at := range []int{64, 255, 256 + 64, 511} {
		image := bytes.Clone(x)
		image[at] = 1
		mends(t, fmt.Sprintf("P23.2: byte %d", at), image, x, api.OK, at/256)
	}
}

// P23.5, P23.10: one bit in every page and slot at once, and in some of them; just those are told, rising.
func TestOneBitInEveryPage(t *testing.T) {
	t.Parallel()
	rnd := drawn(4)
	for _, h := range histories(t) {
		for number, x := range h.images {
			mark := superOf(t, x).Mark
			for _, part := range []int{1, 2, 5} {
				var bits, pages []int
				for page := range mark {
					if rnd.IntN(part) == 0 {
						bits, pages = append(bits, page*pageBits+rnd.IntN(pageBits)), append(pages, page)
					}
				}
				image := turned(x, bits...)
				mends(t, fmt.Sprintf("P23.10: number %d, one page of %d", number, part), image, x, api.OK, pages...)
				rescues(t, "P23.12: one bit a page", image, x, h.version(number), api.OK)
			}
		}
	}
}

// P23.1, P23.11: two and three bits of a page: it stays, and is not told; what one bit has spoilt beside it heals.
func TestTwoAndThreeBitsOfAPage(t *testing.T) {
	t.Parallel()
	h := made(t, 24, 4, story()...)
	x, mark, rnd := h.newest(), h.super(t).Mark, drawn(5)
	for i := range 3000 {
		page := 2 + i%(mark-2)
		var bits []int
		for _, bit := range unlike(rnd, 2+i%2, pageBits) {
			bits = append(bits, page*pageBits+bit)
		}
		if i%7 == 0 { // the last bits of the checksum among them
			bits[0] = page*pageBits + pageBits - 1 - i%2
			bits = slices.Compact(bits)
		}
		spoilt := turned(x, bits...)
		if len(bits) < 2 || bytes.Equal(spoilt, x) {
			continue
		}
		heals(t, fmt.Sprintf("P23.11: bits %v", bits), spoilt, spoilt)
		other := 2 + (page+3)%(mark-2)
		heals(t, fmt.Sprintf("P23.11: bits %v, and one of page %d", bits, other), turned(spoilt, other*pageBits+i%pageBits), spoilt, other)
	}
}

// P23.5, P23.11: two and three bits of a slot's first sector, in one slot and in both.
func TestTwoAndThreeBitsOfASlot(t *testing.T) {
	t.Parallel()
	h := made(t, 24, 4, story()...)
	rnd := drawn(6)
	for i := range 1500 {
		number := 6 + i%2
		var one, two []int
		for _, bit := range unlike(rnd, 2+rnd.IntN(2), sectorBits) {
			one = append(one, bit)
		}
		for _, bit := range unlike(rnd, 2+rnd.IntN(2), sectorBits) {
			two = append(two, pageBits+bit)
		}
		for _, bits := range [][]int{one, two, append(one, two...), append(one, two[0]), append(two, one[0])} {
			image := turned(h.images[number], bits...)
			if b, pages, e := salvage.Mend(image); b != nil || pages != nil || e != api.ErrCorrupt {
				t.Fatalf("P23.5: bits %v: Mend = %s, %v, %v", bits, some(b), pages, e)
			}
			if a, b, e := salvage.Whole(image); a != 0 || b != 0 || e != api.ErrCorrupt {
				t.Fatalf("P23.6: bits %v: Whole = %d, %d, %v", bits, a, b, e)
			}
		}
	}
}

// P23.11, W11: up to three bits in each page and slot: what stands behind Mend is what was there.
func TestNothingWrongIsHealed(t *testing.T) {
	t.Parallel()
	rnd := drawn(7)
	healed := 0
	for _, h := range histories(t) {
		for range 120 {
			x := pick(rnd, h.images...)
			mark := superOf(t, x).Mark
			image, counts := spoil(rnd, x, mark)
			b, _, e := salvage.Mend(image)
			if e != api.OK {
				if counts[0] < 2 && counts[1] < 2 {
					t.Errorf("P23.11: Mend = %v", e)
				}
				continue
			}
			healed++
			for page := range mark {
				from, to := 256*page, 256*page+256
				if page < 2 {
					to = from + 64
				}
				if !bytes.Equal(b[from:to], x[from:to]) && standsInFrame(page, b[from:256*page+256]) {
					t.Errorf("P23.11: page %d stands, and is another one than it was", page)
				}
				if counts[page] < 2 != bytes.Equal(b[from:to], x[from:to]) {
					t.Errorf("P23.11: page %d: %d bits turned, healed: %v", page, counts[page], counts[page] >= 2)
				}
			}
		}
	}
	if healed < 100 {
		t.Errorf("only %d images were looked at", healed)
	}
}

// spoil turns up to three bits in each used page and in each slot; it tells how many in which page, of a slot in its first sector.
func spoil(rnd *rand.Rand, image []byte, mark int) ([]byte, []int) {
	image = bytes.Clone(image)
	counts := make([]int, mark)
	most := 1 + rnd.IntN(12) // how often a page is spoilt
	for page := range mark {
		var bits []int
		if rnd.IntN(most) == 0 {
			for range rnd.IntN(4) {
				if bit := rnd.IntN(pageBits) >> (2 * rnd.IntN(2)); !slices.Contains(bits, bit) {
					bits = append(bits, bit)
				}
			}
		}
		for _, bit := range bits {
			image[256*page+bit/8] ^= 1 << (bit % 8)
			if page >= 2 || bit < sectorBits {
				counts[page]++
			}
		}
	}
	return image, counts
}

// P23.5: pages from the mark on stay as they are, whatever one bit would make of them.
func TestPagesFromTheMark(t *testing.T) {
	h := made(t, 24, 4, story()...)
	rnd := drawn(8)
	for number, x := range h.images {
		mark := superOf(t, x).Mark
		for page := mark; page < 24; page++ {
			name := fmt.Sprintf("P23.5: number %d, page %d", number, page)
			right := framed(api.KindLeaf, page, append(make([]byte, 32), 'x'))
			for _, b := range [][]byte{noise(rnd, 256), right, turned(right, rnd.IntN(pageBits)), turned(make([]byte, 256), 9)} {
				image := laid(x, page, b)
				heals(t, name, image, image)
				heals(t, name+", and a bit ahead", turned(image, (mark-1)*pageBits+2047), image, mark-1)
				cuts(t, name+": P23.3", image, -1, x, api.OK)
			}
		}
		if mark > 2 {
			// What is below the mark is mended, the last page too, and also where no version has it.
			image := underHead(t, laid(x, mark, framed(api.KindLeaf, mark, make([]byte, 32))), mark+1, mark-1)
			heals(t, "P23.5: the last page", turned(image, mark*pageBits+7), image, mark)
		}
	}
}

// wrongFrames are pages of a number with right checksums that frame refuses.
func wrongFrames(page int) map[string][]byte {
	long := framed(api.KindLeaf, page, make([]byte, 246))
	long[1] = 247
	tail := framed(api.KindLeaf, page, make([]byte, 40))
	tail[251] = 1
	return map[string][]byte{
		"kind 0": framed(0, page, []byte("abc")), "kind 4": framed(4, page, nil), "kind 255": framed(255, page, nil),
		"another number": framed(api.KindLeaf, page+1, make([]byte, 40)),
		"length":         resealed(long), "tail": resealed(tail),
	}
}

// resealed lays the right checksum over a page's last four bytes.
func resealed(b []byte) []byte {
	return laid(b, 0, seal(b[:252]))
}

// P23.1: a page whose checksum is right and that does not stand stays; with a bit turned it stays too: to turn that one back would not make it stand.
func TestRightSumsThatDoNotStand(t *testing.T) {
	h := made(t, 24, 4, story()...)
	x, rnd := h.newest(), drawn(9)
	for _, page := range []int{2, 9, 20, 21} {
		for name, b := range wrongFrames(page) {
			image := laid(x, page, b)
			heals(t, "P23.1: "+name, image, image)
			for range 60 {
				bit := rnd.IntN(pageBits)
				spoilt := turned(image, page*pageBits+bit)
				heals(t, fmt.Sprintf("P23.1: %s, bit %d", name, bit), spoilt, spoilt)
			}
		}
	}
}

// P23.1: page loads that frame takes stand, whatever they say: nothing is mended in them.
func TestFramesThatSayNothing(t *testing.T) {
	h := made(t, 24, 4, story()...)
	x := h.newest()
	for _, b := range [][]byte{framed(1, 9, nil), framed(2, 9, []byte("no branch")), framed(3, 9, []byte("no record")), framed(3, 9, make([]byte, 246))} {
		image := laid(x, 9, b)
		heals(t, "P23.1", image, image)
		heals(t, "P23.1: a bit", turned(image, 9*pageBits+77), image, 9)
		ask(t, "P23.1", turned(image, 9*pageBits+77))
	}
}

// P23.1, P23.2: slots with right checksums that are no superblocks, and one bit beside such: none is mended.
func TestSlotsThatDoNotStand(t *testing.T) {
	h := made(t, 24, 4, story()...)
	x, rnd := h.newest(), drawn(10)
	s := h.super(t)
	letters := block(s)
	letters[3] = '2'
	zeros := block(s)
	zeros[30] = 1
	for name, b := range map[string][]byte{
		"letters": sealedSector(letters), "zeros": sealedSector(zeros),
		"width 0": block(api.Super{Generation: 8, Mark: 22, Head: 21, Pages: 24}), "width 33": block(api.Super{Width: 33, Generation: 8, Mark: 22, Head: 21, Pages: 24}),
		"mark":       block(api.Super{Width: 4, Generation: 8, Mark: 25, Head: 21, Pages: 24}),
		"head":       block(api.Super{Width: 4, Generation: 8, Mark: 22, Head: 22, Pages: 24}),
		"head 1":     block(api.Super{Width: 4, Generation: 8, Mark: 22, Head: 1, Pages: 24}),
		"generation": block(api.Super{Width: 4, Generation: 1<<40 + 2, Mark: 22, Head: 21, Pages: 24}),
	} {
		image := laid(x, 0, b)
		for i := range 20 {
			if i > 0 {
				image = turned(laid(x, 0, b), rnd.IntN(sectorBits))
			}
			mends(t, "P23.1: "+name, image, nil, api.ErrCorrupt)
			refusesCuts(t, "P23.6: "+name, image, api.ErrCorrupt)
			rescues(t, "P23.8: "+name, image, h.images[6], 6, api.OK)
		}
	}
}
