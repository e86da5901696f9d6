package salvage_test

import (
	"bytes"
	"fmt"
	"testing"

	"ledger/api"
	"ledger/disk"
	"ledger/ledger"
	"ledger/ship"
)

// isAt asks all calls of an image that a loss of power has left behind a number: what lies below the mark is as it was, what lies behind it may be anything.
func (h history) isAt(t *testing.T, promise string, image []byte, number int) {
	t.Helper()
	first, last := min(h.first, h.version(number)), h.version(number)
	if mark := superOf(t, h.images[number]).Mark; !bytes.Equal(image[:256*mark], h.images[number][:256*mark]) {
		t.Fatalf("%s: the image is not behind the number %d", promise, number)
	}
	mends(t, promise+": P23.5", image, image, api.OK)
	wholes(t, promise+": P23.6", image, first, last, api.OK)
	h.travels(t, promise+": P23.7", image, number)
	rescues(t, promise+": P23.12", image, h.images[number], last, api.OK)
}

// isSpoiltAt turns up to three bits in each used page and slot of such an image, and asks for the beginning that is left.
func (h history) isSpoiltAt(t *testing.T, promise string, seed uint64, image []byte, number int) {
	t.Helper()
	rnd := drawn(seed)
	for range 3 {
		spoilt, counts := spoil(rnd, image, superOf(t, image).Mark)
		h.isLeft(t, promise+": spoilt", spoilt, number, counts)
	}
}

// P23.12: power goes at each act of a Create: the image is blank, or an empty ledger's.
func TestPowerLostInACreate(t *testing.T) {
	t.Parallel()
	h := made(t, 8, 4)
	for act := 1; act <= 4; act++ {
		for fate := range byte(16) {
			name := fmt.Sprintf("P23.12: act %d, fate %d", act, fate)
			d := blank(t, 8)
			d.Arm(act)
			if _, err := ledger.Create(d, 4, 8); ledger.Code(err) != api.ErrDown {
				t.Fatal(err)
			}
			refusesAll(t, name+": without power", d.Image(), api.ErrBlank)
			d.Crash([]byte{fate})
			if act < 3 || fate%2 == 0 {
				refusesAll(t, name, d.Image(), api.ErrBlank)
				continue
			}
			h.isAt(t, name, d.Image(), 0)
			for bit := int(fate); bit < sectorBits; bit += 29 {
				newer := turned(d.Image(), pageBits+bit, pageBits+(bit+5)%sectorBits)
				rescues(t, name+": the newer slot spoilt", newer, h.images[0], 0, api.OK)
			}
			h.isSpoiltAt(t, name, uint64(fate), d.Image(), 0)
		}
	}
}

// P23.12: power goes at each act of each commit of the story, with fates of all kinds; behind that the ledger goes on, and loses power once more.
func TestPowerLostInCommits(t *testing.T) {
	h := made(t, 40, 4, story()...)
	ends := h.ends(t)
	for number := range h.lists {
		t.Run(fmt.Sprint(number), func(t *testing.T) {
			t.Parallel()
			pages := ends[number+1] - ends[number]
			for act := 1; act <= pages+3; act++ {
				for seed := range uint64(6) {
					name := fmt.Sprintf("number %d, act %d, seed %d", number, act, seed)
					image, at := h.crashed(t, h.images[number], number, act, seed)
					h.isAt(t, name, image, at)
					h.isSpoiltAt(t, name, seed, image, at)
					if at < len(h.lists) {
						image, at = h.crashed(t, image, at, 1+int(seed)*2, seed+9)
						h.isAt(t, name+": once more", image, at)
						h.isSpoiltAt(t, name+": once more", seed, image, at)
					}
				}
			}
		})
	}
}

// crashed makes the commit behind a number, loses power at an act of it, if it comes so far, and tells the image and the number then.
func (h history) crashed(t *testing.T, image []byte, number, act int, seed uint64) ([]byte, int) {
	t.Helper()
	d, l := opened(t, image)
	d.Arm(act)
	_, err := l.Commit(raw(h.lists[number]...))
	if err != nil && ledger.Code(err) != api.ErrDown {
		t.Fatal(err)
	}
	fates := noise(drawn(seed), 40)
	if seed < 2 {
		fates = bytes.Repeat([]byte{byte(15 * seed)}, 40)
	}
	d.Crash(fates)
	l, err = ledger.Open(d, 3)
	if err != nil {
		t.Fatal(err)
	}
	info, err := l.Info()
	if err != nil {
		t.Fatal(err)
	}
	return d.Image(), info.Last - max(info.First, 1) + 1
}

// P23.12: power goes at each act of an Import, and of a commit behind one: what is left is blank, empty, or the first versions of the stream.
func TestPowerLostInAnImport(t *testing.T) {
	t.Parallel()
	four := made(t, 24, 4, story()...)
	for _, from := range []int{3, 6} {
		h := shipped(t, from, four)
		_, l := opened(t, four.newest())
		stream, err := ship.Export(l, from, api.Newest)
		if err != nil {
			t.Fatal(err)
		}
		for act := 1; ; act++ {
			done := false
			for seed := range uint64(5) {
				d := blank(t, 24)
				d.Arm(act)
				_, err := ship.Import(d, 8, stream)
				done = err == nil
				d.Crash(noise(drawn(seed+uint64(act)), 40))
				h.isTakenIn(t, fmt.Sprintf("from %d, act %d, seed %d", from, act, seed), d, seed)
			}
			if done {
				break
			}
		}
	}
}

// isTakenIn asks all calls of what an Import has left.
func (h history) isTakenIn(t *testing.T, promise string, d *disk.Disk, seed uint64) {
	t.Helper()
	l, err := ledger.Open(d, 4)
	if ledger.Code(err) == api.ErrBlank {
		refusesAll(t, promise, d.Image(), api.ErrBlank)
		return
	}
	if err != nil {
		t.Fatal(promise, err)
	}
	info, err := l.Info()
	if err != nil {
		t.Fatal(promise, err)
	}
	number := 0
	if info.Last > 0 {
		number = info.Last - h.first + 1
	}
	h.isAt(t, promise, d.Image(), number)
	h.isSpoiltAt(t, promise, seed, d.Image(), number)
}

// P23.12: power goes again and again, while commits come that are made anew until they are through.
func TestPowerLostAgainAndAgain(t *testing.T) {
	for seed := range uint64(12) {
		t.Run(fmt.Sprint(seed), func(t *testing.T) {
			t.Parallel()
			rnd := drawn(seed)
			h := made(t, 24, 4, story()...)
			if seed%3 == 2 {
				h = shipped(t, 2, h)
			}
			number := int(seed % 3 / 2)
			image := h.images[number]
			for round := 0; number < len(h.lists); round++ {
				image, number = h.crashed(t, image, number, 1+rnd.IntN(12), rnd.Uint64())
				name := fmt.Sprintf("seed %d, round %d", seed, round)
				h.isAt(t, name, image, number)
				h.isSpoiltAt(t, name, rnd.Uint64(), image, number)
			}
		})
	}
}
