package frame_test

import (
	"bytes"
	"fmt"
	"math/rand"
	"slices"
	"testing"

	"ledger/api"
	"ledger/frame"
)

// Supers that are valid, each field at its lowest and its highest among them.
var rightSupers = []api.Super{
	{Width: 1, Generation: 0, Mark: 2, Head: 0, Pages: 3},
	{Width: 32, Generation: 1 << 40, Mark: 4096, Head: 4095, Pages: 4096},
	{Width: 1, Generation: 1 << 40, Mark: 2, Head: 0, Pages: 4096},
	{Width: 32, Generation: 0, Mark: 3, Head: 2, Pages: 3},
	{Width: 31, Generation: 1<<40 - 1, Mark: 3, Head: 0, Pages: 4},
	{Width: 2, Generation: 1, Mark: 4, Head: 3, Pages: 4},
	{Width: 27, Generation: 255, Mark: 300, Head: 2, Pages: 300},
	{Width: 27, Generation: 256, Mark: 300, Head: 299, Pages: 301},
	{Width: 8, Generation: 0x0102030405, Mark: 0x0807, Head: 0x0706, Pages: 0x0A0B},
	{Width: 8, Generation: 1 << 39, Mark: 4095, Head: 4094, Pages: 4096},
}

// Supers that are not: one below and one above what each field may be, and numbers that the field's bytes would take for right ones.
var wrongSupers = []api.Super{
	{},
	{Width: 0, Mark: 2, Pages: 3},
	{Width: -1, Mark: 2, Pages: 3},
	{Width: 33, Mark: 2, Pages: 3},
	{Width: 256 + 1, Mark: 2, Pages: 3},
	{Width: lowest, Mark: 2, Pages: 3},
	{Width: highest, Mark: 2, Pages: 3},
	{Width: 1, Generation: -1, Mark: 2, Pages: 3},
	{Width: 1, Generation: 1<<40 + 1, Mark: 2, Pages: 3},
	{Width: 1, Generation: 1 << 41, Mark: 2, Pages: 3},
	{Width: 1, Generation: lowest, Mark: 2, Pages: 3},
	{Width: 1, Generation: highest, Mark: 2, Pages: 3},
	{Width: 1, Mark: 1, Pages: 3},
	{Width: 1, Mark: 0, Pages: 3},
	{Width: 1, Mark: -1, Pages: 3},
	{Width: 1, Mark: 4, Pages: 3},
	{Width: 1, Mark: 4097, Pages: 4096},
	{Width: 1, Mark: 1<<32 + 2, Pages: 3},
	{Width: 1, Mark: lowest, Pages: 3},
	{Width: 1, Mark: highest, Pages: 4096},
	{Width: 1, Mark: 2, Pages: 2},
	{Width: 1, Mark: 2, Pages: 1},
	{Width: 1, Mark: 2, Pages: 0},
	{Width: 1, Mark: 2, Pages: -1},
	{Width: 1, Mark: 2, Pages: 4097},
	{Width: 1, Mark: 4097, Pages: 4097},
	{Width: 1, Mark: 2, Pages: 1<<32 + 3},
	{Width: 1, Mark: 2, Pages: lowest},
	{Width: 1, Mark: 2, Pages: highest},
	{Width: 1, Mark: 2, Head: 1, Pages: 3},
	{Width: 1, Mark: 2, Head: 2, Pages: 3},
	{Width: 1, Mark: 2, Head: 3, Pages: 3},
	{Width: 1, Mark: 9, Head: 1, Pages: 16},
	{Width: 1, Mark: 9, Head: -1, Pages: 16},
	{Width: 1, Mark: 9, Head: 9, Pages: 16},
	{Width: 1, Mark: 9, Head: 10, Pages: 16},
	{Width: 1, Mark: 9, Head: 1 << 32, Pages: 16},
	{Width: 1, Mark: 9, Head: 1<<32 + 2, Pages: 16},
	{Width: 1, Mark: 9, Head: lowest, Pages: 16},
	{Width: 1, Mark: 9, Head: highest, Pages: 16},
}

// onDisk tells whether the fields of a superblock have room for what s says.
func onDisk(s api.Super) bool {
	small := func(n int) bool { return n >= 0 && n < 1<<32 }
	return s.Width >= 0 && s.Width < 256 && small(s.Mark) && small(s.Head) && small(s.Pages)
}

func TestPackSuperLaysTheTable(t *testing.T) {
	for _, s := range rightSupers {
		got, e := frame.PackSuper(s)
		wantBytes(t, fmt.Sprintf("P5.3: PackSuper(%+v)", s), got, e, block(s))
	}
}

func TestPackSuperRefuses(t *testing.T) {
	for _, s := range wrongSupers {
		got, e := frame.PackSuper(s)
		wantNoBytes(t, fmt.Sprintf("P5.3: PackSuper(%+v)", s), got, e, api.ErrFrame)
	}
}

func TestUnpackSuperReadsTheTable(t *testing.T) {
	for _, s := range rightSupers {
		for name, raw := range map[string][]byte{"zeros": block(s), "other bytes": tailed(block(s))} {
			got, e := frame.UnpackSuper(raw)
			wantSuper(t, "P5.4: "+name+" behind it", got, e, s, api.OK)
		}
	}
}

func TestUnpackSuperRefusesWhatIsNotValid(t *testing.T) {
	asked := 0
	for _, s := range wrongSupers {
		if onDisk(s) {
			asked++
			got, e := frame.UnpackSuper(block(s))
			wantSuper(t, fmt.Sprintf("P5.4: %+v", s), got, e, api.Super{}, api.ErrFrame)
		}
	}
	if asked < 20 {
		t.Errorf("only %d rows can lie on a disk", asked)
	}
}

// Every row of numbers about the bounds, against the chapter's sentence.
func TestWhichSupersAreValid(t *testing.T) {
	for _, width := range []int{0, 1, 32, 33} {
		for _, generation := range []int{-1, 0, 1 << 40, 1<<40 + 1} {
			for _, pages := range []int{2, 3, 7, 4096, 4097} {
				for _, mark := range []int{1, 2, 3, pages - 1, pages, pages + 1} {
					for _, head := range []int{-1, 0, 1, 2, mark - 1, mark} {
						s := api.Super{Width: width, Generation: generation, Mark: mark, Head: head, Pages: pages}
						askBoth(t, s, refValid(s))
					}
				}
			}
		}
	}
}

func refValid(s api.Super) bool {
	if s.Width < 1 || s.Width > 32 {
		return false
	}
	if s.Generation < 0 || s.Generation > 1099511627776 {
		return false
	}
	if s.Pages < 3 || s.Pages > 4096 {
		return false
	}
	if s.Mark < 2 || s.Mark > s.Pages {
		return false
	}
	return s.Head == 0 || s.Head >= 2 && s.Head <= s.Mark-1
}

// askBoth lays s and reads what would lie there.
func askBoth(t *testing.T, s api.Super, right bool) {
	t.Helper()
	raw, e := frame.PackSuper(s)
	read, e2 := frame.UnpackSuper(block(s))
	if right {
		wantBytes(t, fmt.Sprintf("P5.3: PackSuper(%+v)", s), raw, e, block(s))
		wantSuper(t, "P5.4", read, e2, s, api.OK)
		return
	}
	wantNoBytes(t, fmt.Sprintf("P5.3: PackSuper(%+v)", s), raw, e, api.ErrFrame)
	if onDisk(s) {
		wantSuper(t, fmt.Sprintf("P5.4: %+v", s), read, e2, api.Super{}, api.ErrFrame)
	}
}

func TestUnpackSuperOfAWrongLength(t *testing.T) {
	whole := block(rightSupers[6])
	long := append(bytes.Clone(whole), whole...)
	for _, n := range []int{0, 1, 4, 60, 63, 64, 65, 128, 255, 257, 320, 512} {
		got, e := frame.UnpackSuper(long[:n])
		wantSuper(t, fmt.Sprintf("P5.4: %d bytes", n), got, e, api.Super{}, api.ErrFrame)
	}
	got, e := frame.UnpackSuper(nil)
	wantSuper(t, "P5.4: nil", got, e, api.Super{}, api.ErrFrame)
}

func TestUnpackSuperOfAWrongSum(t *testing.T) {
	for _, s := range append(slices.Clone(rightSupers), api.Super{Width: 33, Mark: 1, Head: 1}) {
		for at := 60; at < 64; at++ {
			raw := block(s)
			got, e := frame.UnpackSuper(with(raw, at, raw[at]+1))
			wantSuper(t, fmt.Sprintf("P5.4: byte %d of %+v", at, s), got, e, api.Super{}, api.ErrSum)
		}
	}
	got, e := frame.UnpackSuper(make([]byte, 256))
	wantSuper(t, "P5.4: zeros", got, e, api.Super{}, api.ErrSum)
	wholePage := page(1, 3, 2, []byte("abc"))
	got, e = frame.UnpackSuper(wholePage)
	wantSuper(t, "P5.4: a page that is no superblock", got, e, api.Super{}, api.ErrSum)
}

// The letters and the bytes that are no field's, each of them another, with the sum wrong and right.
func TestUnpackSuperOfOtherLettersAndNoZeros(t *testing.T) {
	places := []int{0, 1, 2, 3, 5, 6, 7}
	for at := 28; at < 60; at++ {
		places = append(places, at)
	}
	for _, s := range rightSupers {
		for _, at := range places {
			for _, turned := range []byte{1, 32, 128, 255} {
				raw := block(s)
				raw[at] ^= turned
				got, e := frame.UnpackSuper(raw)
				wantSuper(t, fmt.Sprintf("P5.4: byte %d turned", at), got, e, api.Super{}, api.ErrSum)
				got, e = frame.UnpackSuper(resum(raw, 64))
				wantSuper(t, fmt.Sprintf("P5.4: byte %d turned, the sum right", at), got, e, api.Super{}, api.ErrFrame)
			}
		}
	}
}

// Fields whose bytes reach above what may be, where a number of fewer bytes would be right.
func TestUnpackSuperReadsEveryByteOfAField(t *testing.T) {
	raw := block(api.Super{Width: 4, Generation: 2, Mark: 4, Head: 3, Pages: 16})
	for _, at := range []int{13, 14, 15, 18, 19, 22, 23, 26, 27} {
		for _, v := range []byte{2, 128, 255} {
			got, e := frame.UnpackSuper(resum(with(raw, at, v), 64))
			wantSuper(t, fmt.Sprintf("P5.4: byte %d is %d", at, v), got, e, api.Super{}, api.ErrFrame)
		}
	}
}

// Superblocks with a few bytes changed and the sum right again: what is taken is what PackSuper answers for it, all else is refused.
func TestUnpackSuperTakesNoTwoSectorsForTheSame(t *testing.T) {
	r := rand.New(rand.NewSource(2))
	taken := 0
	for range 60000 {
		raw := tailed(block(rightSupers[r.Intn(len(rightSupers))]))
		for range 1 + r.Intn(2) {
			raw[r.Intn(60)] = []byte{0, 1, 2, 3, byte(r.Intn(256))}[r.Intn(5)]
		}
		resum(raw, 64)
		s, e := frame.UnpackSuper(raw)
		if e != api.OK {
			wantSuper(t, fmt.Sprintf("P5.4: %v", raw[:64]), s, e, api.Super{}, api.ErrFrame)
			continue
		}
		taken++
		again, e := frame.PackSuper(s)
		wantBytes(t, "P5.6: PackSuper of what UnpackSuper told", again[:min(64, len(again))], e, raw[:64])
	}
	if taken < 1000 {
		t.Errorf("only %d superblocks were taken", taken)
	}
}

// What lies there if every field's bytes are taken as numbers must be told just where it is valid.
func TestUnpackSuperRefusesNothingThatIsValid(t *testing.T) {
	r := rand.New(rand.NewSource(3))
	for range 20000 {
		pages := 3 + r.Intn(4094)
		mark := 2 + r.Intn(pages-1)
		s := api.Super{Width: 1 + r.Intn(32), Generation: r.Intn(1<<40 + 1), Mark: mark, Pages: pages}
		if head := r.Intn(mark); head > 1 {
			s.Head = head
		}
		askBoth(t, s, true)
	}
}
