package frame_test

import (
	"fmt"
	"math/rand"
	"slices"
	"testing"

	"ledger/api"
	"ledger/frame"
)

// gen tells a superblock of the width 5 on 20 pages.
func gen(generation, mark, head int) api.Super {
	return api.Super{Width: 5, Generation: generation, Mark: mark, Head: head, Pages: 20}
}

func wantChosen(t *testing.T, name string, a, b []byte, want api.Super) {
	t.Helper()
	got, e := frame.Choose(a, b)
	wantSuper(t, "P5.5: "+name, got, e, want, api.OK)
}

func wantNone(t *testing.T, name string, a, b []byte, want api.Errno) {
	t.Helper()
	got, e := frame.Choose(a, b)
	wantSuper(t, "P5.5: "+name, got, e, api.Super{}, want)
}

func TestChooseTakesTheNewer(t *testing.T) {
	for _, c := range []struct{ a, b api.Super }{
		{gen(0, 2, 0), gen(1, 2, 0)},
		{gen(2, 4, 3), gen(1, 2, 0)},
		{gen(4, 9, 8), gen(3, 7, 6)},
		{gen(4, 9, 8), gen(3, 9, 8)},
		{gen(4, 9, 8), gen(5, 9, 8)},
		{gen(4, 9, 8), gen(5, 20, 19)},
		{gen(4, 9, 8), gen(5, 9, 2)},
		{gen(4, 9, 8), gen(5, 9, 0)},
		{gen(256, 9, 8), gen(255, 9, 8)},
		{gen(1<<40, 9, 8), gen(1<<40-1, 9, 8)},
		{gen(1<<32, 9, 8), gen(1<<32+1, 9, 8)},
	} {
		want := c.a
		if c.b.Generation > c.a.Generation {
			want = c.b
		}
		wantChosen(t, fmt.Sprintf("%+v, %+v", c.a, c.b), block(c.a), block(c.b), want)
		wantChosen(t, "other bytes behind both", tailed(block(c.a)), tailed(block(c.b)), want)
		wantNone(t, "each in the other's slot", block(c.b), block(c.a), api.ErrCorrupt)
	}
}

func TestChooseOfGenerationsThatAreNotOneApart(t *testing.T) {
	for a := range 12 {
		for b := range 12 {
			name := fmt.Sprintf("generations %d and %d", a, b)
			switch {
			case a%2 == 0 && b == a+1:
				wantChosen(t, name, block(gen(a, 9, 8)), block(gen(b, 9, 8)), gen(b, 9, 8))
			case a%2 == 0 && a == b+1:
				wantChosen(t, name, block(gen(a, 9, 8)), block(gen(b, 9, 8)), gen(a, 9, 8))
			default:
				wantNone(t, name, block(gen(a, 9, 8)), block(gen(b, 9, 8)), api.ErrCorrupt)
			}
		}
	}
	wantNone(t, "far apart", block(gen(0, 2, 0)), block(gen(1<<40-1, 2, 0)), api.ErrCorrupt)
	wantNone(t, "far apart", block(gen(1<<40, 2, 0)), block(gen(1, 2, 0)), api.ErrCorrupt)
}

func TestChooseOfAMarkThatWentDown(t *testing.T) {
	for older := 9; older <= 12; older++ {
		for newest := 9; newest <= 12; newest++ {
			name := fmt.Sprintf("marks %d and then %d", older, newest)
			if newest < older {
				wantNone(t, name, block(gen(4, older, 8)), block(gen(5, newest, 8)), api.ErrCorrupt)
				wantNone(t, name, block(gen(4, newest, 8)), block(gen(3, older, 8)), api.ErrCorrupt)
				continue
			}
			wantChosen(t, name, block(gen(4, older, 8)), block(gen(5, newest, 8)), gen(5, newest, 8))
			wantChosen(t, name, block(gen(4, newest, 8)), block(gen(3, older, 8)), gen(4, newest, 8))
		}
	}
}

func TestChooseOfOtherWidthsAndPages(t *testing.T) {
	for _, generation := range []int{3, 5} {
		for _, other := range []api.Super{
			{Width: 4, Mark: 9, Pages: 20}, {Width: 6, Mark: 9, Pages: 20},
			{Width: 5, Mark: 9, Pages: 19}, {Width: 5, Mark: 9, Pages: 21},
		} {
			other.Generation = generation
			wantNone(t, fmt.Sprintf("generation 4 and %+v", other), block(gen(4, 9, 0)), block(other), api.ErrCorrupt)
		}
	}
}

// slots tells bytes that stand, are empty, or are neither.
func slots() map[string][]byte {
	spoilt := block(gen(4, 9, 8))
	spoilt[40] ^= 1
	return map[string][]byte{
		"empty":            make([]byte, 256),
		"empty, a tail":    tailed(make([]byte, 256)),
		"a one at byte 63": with(make([]byte, 256), 63, 1),
		"a one at byte 0":  with(make([]byte, 256), 0, 1),
		"spoilt":           spoilt,
		"letters others":   resum(with(block(gen(0, 2, 0)), 3, '2'), 64),
		"not valid":        block(gen(0, 1, 0)),
		"nil":              nil,
		"64 zeros":         make([]byte, 64),
		"255 zeros":        make([]byte, 255),
		"257 zeros":        make([]byte, 257),
		"a page":           page(1, 3, 2, []byte("abc")),
		"too short":        block(gen(0, 2, 0))[:255],
	}
}

func TestChooseOfSlotsThatDoNotBothStand(t *testing.T) {
	empty := []string{"empty", "empty, a tail"}
	for first, a := range slots() {
		for second, b := range slots() {
			want := api.ErrCorrupt
			if slices.Contains(empty, first) && slices.Contains(empty, second) {
				want = api.ErrBlank
			}
			wantNone(t, first+" / "+second, a, b, want)
		}
	}
	for name, other := range slots() {
		for _, g := range []int{0, 1, 2, 3, 4, 1 << 40} {
			stands := tailed(block(gen(g, 2, 0)))
			want := api.ErrCorrupt
			if g == 0 && slices.Contains(empty, name) {
				want = api.ErrBlank
			}
			wantNone(t, fmt.Sprintf("generation %d / %s", g, name), stands, other, want)
			wantNone(t, fmt.Sprintf("%s / generation %d", name, g), other, stands, api.ErrCorrupt)
		}
	}
}

// Generation 0 alone is blank whatever else it says.
func TestChooseOfAFirstSuperblockAlone(t *testing.T) {
	for _, s := range rightSupers {
		want := api.ErrCorrupt
		if s.Generation == 0 {
			want = api.ErrBlank
		}
		wantNone(t, fmt.Sprintf("%+v alone", s), block(s), make([]byte, 256), want)
		wantNone(t, fmt.Sprintf("%+v alone in slot 1", s), make([]byte, 256), block(s), api.ErrCorrupt)
	}
}

// refChoose is P5.5's first case, word for word, for two superblocks that stand.
func refChoose(a, b api.Super) (api.Super, api.Errno) {
	newest, older := a, b
	if b.Generation > a.Generation {
		newest, older = b, a
	}
	good := a.Generation%2 == 0 && b.Generation%2 == 1 && newest.Generation-older.Generation == 1 &&
		a.Width == b.Width && a.Pages == b.Pages && newest.Mark >= older.Mark
	if !good {
		return api.Super{}, api.ErrCorrupt
	}
	return newest, api.OK
}

func TestChooseOfAnyTwoThatStand(t *testing.T) {
	r := rand.New(rand.NewSource(4))
	random := func() api.Super {
		s := api.Super{Width: 1 + r.Intn(10)/9, Generation: r.Intn(6), Mark: 4 + r.Intn(3), Pages: 20 + r.Intn(10)/9}
		s.Head = []int{0, 2, s.Mark - 1}[r.Intn(3)]
		return s
	}
	chosen := 0
	for range 30000 {
		a, b := random(), random()
		want, wantErr := refChoose(a, b)
		got, e := frame.Choose(block(a), tailed(block(b)))
		wantSuper(t, fmt.Sprintf("P5.5: %+v, %+v", a, b), got, e, want, wantErr)
		if e == api.OK {
			chosen++
		}
	}
	if chosen < 1000 {
		t.Errorf("only %d pairs held", chosen)
	}
}
