package salvage_test

import (
	"fmt"
	"testing"

	"ledger/api"
)

// left tells the number of the record that Rescue ends with (P23.12), for an image that ends with a number and of whose pages so many bits each are turned; or that both slots are lost.
func (h history) left(t *testing.T, number int, counts []int) (int, bool) {
	t.Helper()
	newer := (number + 1) % 2
	if counts[0] >= 2 && counts[1] >= 2 {
		return 0, false
	}
	if counts[newer] >= 2 && number > 0 {
		number--
	}
	ends := h.ends(t)
	for i := 1; i <= number; i++ {
		for page := ends[i-1] + 1; page <= ends[i]; page++ {
			if counts[page] >= 2 {
				return i - 1, true
			}
		}
	}
	return number, true
}

// isLeft asks Rescue for the beginning that P23.12 says.
func (h history) isLeft(t *testing.T, promise string, image []byte, number int, counts []int) {
	t.Helper()
	n, any := h.left(t, number, counts)
	if !any {
		rescues(t, promise, image, nil, 0, api.ErrCorrupt)
		return
	}
	rescues(t, promise, image, h.images[n], h.version(n), api.OK)
}

// P23.12: two and three bits in any one page, of the first version's part, a middle one's and the newest's.
func TestOnePageBeyondOneBit(t *testing.T) {
	t.Parallel()
	rnd := drawn(20)
	for which, h := range histories(t) {
		mark := h.super(t).Mark
		for page := range mark {
			for n := 2; n <= 3; n++ {
				bound := pageBits
				if page < 2 {
					bound = sectorBits
				}
				counts := make([]int, mark)
				counts[page] = n
				var bits []int
				for _, bit := range unlike(rnd, n, bound) {
					bits = append(bits, page*pageBits+bit)
				}
				name := fmt.Sprintf("P23.12: history %d, %d bits of page %d", which, n, page)
				h.isLeft(t, name, turned(h.newest(), bits...), len(h.images)-1, counts)
				if (which+page)%4 == 0 {
					ask(t, name, turned(h.newest(), bits...))
				}
			}
		}
	}
}

// P23.12, W11: up to three bits in each page and slot, drawn.
func TestDrawnBits(t *testing.T) {
	for which, h := range histories(t) {
		t.Run(fmt.Sprint(which), func(t *testing.T) {
			t.Parallel()
			rnd := drawn(uint64(30 + which))
			for i := range 150 {
				number := rnd.IntN(len(h.images))
				image, counts := spoil(rnd, h.images[number], superOf(t, h.images[number]).Mark)
				h.isLeft(t, fmt.Sprintf("P23.12: history %d, number %d, round %d", which, number, i), image, number, counts)
				if i%6 == 0 {
					ask(t, fmt.Sprintf("history %d, number %d, round %d", which, number, i), image)
				}
			}
		})
	}
}

// P23.8, P23.12: the newer, the older and both slots beyond one bit, behind each version; other bits beside them.
func TestSlotsBeyondOneBit(t *testing.T) {
	t.Parallel()
	for which, h := range histories(t) {
		for number, x := range h.images {
			newer, older := (number+1)%2, number%2
			name := fmt.Sprintf("P23.8: history %d, number %d", which, number)
			behind := max(number-1, 0)
			rescues(t, name+": the newer", turned(x, twice(newer)...), h.images[behind], h.version(behind), api.OK)
			rescues(t, name+": the older", turned(x, twice(older)...), x, h.version(number), api.OK)
			rescues(t, name+": the newer, the older by one bit", turned(x, append(twice(newer), older*pageBits+9)...), h.images[behind], h.version(behind), api.OK)
			rescues(t, name+": the older, the newer by one bit", turned(x, append(twice(older), newer*pageBits+511)...), x, h.version(number), api.OK)
			for _, image := range [][]byte{turned(x, append(twice(newer), twice(older)...)...), laid(x, 0, make([]byte, 512))} {
				why := api.ErrCorrupt
				if image[0] == 0 && image[256] == 0 {
					why = api.ErrBlank
				}
				rescues(t, name+": both", image, nil, 0, why)
			}
		}
	}
}

// P23.8: one slot stands alone, the other one empty or full of anything: only of the generation 0 beside an empty one is it blank.
func TestOneSlotAlone(t *testing.T) {
	h := made(t, 24, 4, story()...)
	for number, x := range h.images {
		newer, older := (number+1)%2, number%2
		name := fmt.Sprintf("P23.8: number %d", number)
		behind := max(number-1, 0)
		for what, b := range map[string][]byte{"empty": make([]byte, 256), "an empty sector": append(make([]byte, 64), noise(drawn(2), 192)...), "anything": noise(drawn(3), 256), "a page": framed(1, 2, []byte("x"))} {
			image := laid(x, newer, b)
			if number == 0 && b[0] == 0 {
				refusesAll(t, name+": the newer is "+what, image, api.ErrBlank)
			} else {
				mends(t, name+": the newer is "+what, image, nil, api.ErrCorrupt)
				rescues(t, name+": the newer is "+what, image, h.images[behind], h.version(behind), api.OK)
			}
			image = laid(x, older, b)
			mends(t, name+": the older is "+what, image, nil, api.ErrCorrupt)
			refusesCuts(t, name+": the older is "+what, image, api.ErrCorrupt)
			rescues(t, name+": the older is "+what, image, x, h.version(number), api.OK)
			rescues(t, name+": a bit of the newer, the older is "+what, turned(image, newer*pageBits+200), x, h.version(number), api.OK)
		}
	}
}

// P23.5 to P23.8: slots that stand both: whose generations are the same, one apart, further apart, each in the other's slot; with other marks and widths.
func TestSlotsThatStandBoth(t *testing.T) {
	h := made(t, 24, 4, story()...)
	ends := h.ends(t)
	says := func(generation, number, width int) api.Super {
		s := api.Super{Width: width, Generation: generation, Mark: ends[number] + 1, Pages: 24}
		if number > 0 {
			s.Head = ends[number]
		}
		return s
	}
	for _, c := range []struct {
		name      string
		even, odd api.Super
		holds     bool // whether frame.Choose takes one
		number    int  // that Rescue ends with
	}{
		{"as they were", says(8, 7, 4), says(7, 6, 4), true, 7},
		{"far on", says(1<<40, 7, 4), says(1<<40-1, 7, 4), true, 7},
		{"one apart, the newer says less", says(8, 3, 4), says(7, 6, 4), false, 3},
		{"one apart, the older says the same", says(8, 5, 4), says(7, 5, 4), true, 5},
		{"the odd one is newer", says(8, 2, 4), says(9, 4, 4), true, 4},
		{"each in the other's slot", says(7, 6, 4), says(8, 7, 4), false, 7},
		{"each in the other's slot, the even place newer", says(9, 5, 4), says(8, 7, 4), false, 5},
		{"the same", says(7, 7, 4), says(7, 5, 4), false, 7},
		{"the same, the odd place says more", says(7, 4, 4), says(7, 7, 4), false, 4},
		{"the same, even", says(8, 3, 4), says(8, 6, 4), false, 3},
		{"both 0", says(0, 2, 4), says(0, 7, 4), false, 2},
		{"three apart", says(8, 7, 4), says(5, 4, 4), false, 7},
		{"three apart, the odd one newer", says(4, 3, 4), says(7, 6, 4), false, 6},
		{"two apart", says(8, 3, 4), says(6, 6, 4), false, 3},
		{"two apart, the odd place newer", says(6, 3, 4), says(8, 6, 4), false, 6},
		{"as far as may be", says(0, 7, 4), says(1<<40, 1, 4), false, 1},
		{"another width, older", says(8, 7, 4), says(7, 6, 5), false, 7},
		{"another width, newer", says(8, 7, 5), says(7, 6, 4), false, 0},
		{"another width, both", says(8, 7, 3), says(7, 6, 3), true, 0},
	} {
		image := supers(h.newest(), c.even, c.odd)
		want := h.images[c.number]
		if s := c.even; s.Width != 4 && c.number == 0 {
			want = made(t, 24, s.Width).images[0]
		}
		if c.holds {
			mends(t, "P23.5: "+c.name, image, image, api.OK)
			wholes(t, "P23.6: "+c.name, image, 0, c.number, api.OK)
			cuts(t, "P23.7: "+c.name, image, -1, want, api.OK)
		} else {
			mends(t, "P23.5: "+c.name, image, nil, api.ErrCorrupt)
			refusesCuts(t, "P23.6: "+c.name, image, api.ErrCorrupt)
		}
		rescues(t, "P23.8: "+c.name, image, want, c.number, api.OK)
		rescues(t, "P23.8: a bit a slot, "+c.name, turned(image, 300, pageBits+77), want, c.number, api.OK)
		ask(t, c.name, image)
	}
}

// P23.8: what is mended is mended under the superblock that is taken: pages above an older one's mark are left, and cut away.
func TestMendedUnderTheOlderSlot(t *testing.T) {
	h := made(t, 24, 4, story()...)
	for number := 1; number < len(h.images); number++ {
		mark := superOf(t, h.images[number]).Mark
		var bits []int
		for page := 2; page < mark; page++ {
			bits = append(bits, page*pageBits+(37*page)%pageBits)
		}
		newer := (number + 1) % 2
		image := turned(h.images[number], append(bits, twice(newer)...)...)
		rescues(t, fmt.Sprintf("P23.8: number %d", number), image, h.images[number-1], number-1, api.OK)
	}
}
