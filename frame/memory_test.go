package frame_test

import (
	"bytes"
	"slices"
	"testing"

	"ledger/api"
	"ledger/frame"
)

// roomy tells the same bytes cut out of a longer list, and that list.
func roomy(b []byte) (cut, whole []byte) {
	whole = slices.Concat(b, text(300))
	return whole[:len(b)], whole
}

// wantUntouched asks that a list and the room behind it are as they were.
func wantUntouched(t *testing.T, name string, whole, before []byte) {
	t.Helper()
	if !bytes.Equal(whole, before) {
		t.Errorf("P5.8: %s: an argument, or the room behind it, is changed", name)
	}
}

func TestPackAnswersNewMemory(t *testing.T) {
	for _, n := range loadSizes {
		load, whole := roomy(text(n))
		before := bytes.Clone(whole)
		want := page(1, byte(n), 7, text(n))
		first, e := frame.Pack(1, 7, load)
		wantBytes(t, "P5.8: Pack", first, e, want)
		second, _ := frame.Pack(1, 7, load)
		wantUntouched(t, "Pack", whole, before)
		overwrite(first)
		overwrite(append(first, 1, 2, 3))
		wantUntouched(t, "writing over what Pack answered", whole, before)
		wantBytes(t, "P5.8: the other answer of Pack", second, api.OK, want)
		overwrite(whole)
		wantBytes(t, "P5.8: Pack's answer behind a change of the load", second, api.OK, want)
		third, e := frame.Pack(1, 7, text(n))
		wantBytes(t, "P5.8: Pack again", third, e, want)
	}
}

func TestUnpackAnswersNewMemory(t *testing.T) {
	for _, n := range loadSizes {
		raw, whole := roomy(page(2, byte(n), 7, text(n)))
		before := bytes.Clone(whole)
		_, first, _ := frame.Unpack(7, raw)
		_, second, _ := frame.Unpack(7, raw)
		wantUntouched(t, "Unpack", whole, before)
		overwrite(first)
		overwrite(append(first, 1, 2, 3))
		wantUntouched(t, "writing over what Unpack answered", whole, before)
		wantBytes(t, "P5.8: the other answer of Unpack", second, api.OK, text(n))
		overwrite(whole)
		wantBytes(t, "P5.8: Unpack's answer behind a change of the page", second, api.OK, text(n))
		wantLoad(t, "P5.8: again", 7, page(2, byte(n), 7, text(n)), 2, text(n))
	}
}

func TestPackSuperAnswersNewMemory(t *testing.T) {
	s := rightSupers[8]
	first, _ := frame.PackSuper(s)
	second, _ := frame.PackSuper(s)
	overwrite(first)
	overwrite(append(first, 1, 2, 3))
	wantBytes(t, "P5.8: the other answer of PackSuper", second, api.OK, block(s))
	third, e := frame.PackSuper(s)
	wantBytes(t, "P5.8: PackSuper again", third, e, block(s))
}

func TestUnpackSuperAndChooseLeaveTheirArguments(t *testing.T) {
	old, next := gen(4, 9, 8), gen(5, 12, 11)
	a, wholeA := roomy(tailed(block(old)))
	b, wholeB := roomy(tailed(block(next)))
	beforeA, beforeB := bytes.Clone(wholeA), bytes.Clone(wholeB)
	got, e := frame.UnpackSuper(a)
	wantSuper(t, "P5.8: UnpackSuper", got, e, old, api.OK)
	wantChosen(t, "P5.8: with room behind", a, b, next)
	wantChosen(t, "P5.8: with none", bytes.Clone(a)[:256:256], bytes.Clone(b)[:256:256], next)
	wantUntouched(t, "Choose", wholeA, beforeA)
	wantUntouched(t, "Choose", wholeB, beforeB)
	overwrite(wholeA)
	overwrite(wholeB)
	wantChosen(t, "P5.8: nothing is kept", tailed(block(old)), tailed(block(next)), next)
}

// What is refused is not changed either.
func TestRefusalsLeaveTheirArguments(t *testing.T) {
	for _, b := range [][]byte{nil, text(3), text(247), text(256), text(257), make([]byte, 256), page(9, 255, 77, text(246)), page(1, 0, 7, text(1))} {
		cut, whole := roomy(b)
		before := bytes.Clone(whole)
		frame.Pack(0, 7, cut)
		frame.Pack(1, 1, cut)
		frame.Pack(1, 7, cut)
		frame.Unpack(1, cut)
		frame.Unpack(7, cut)
		frame.UnpackSuper(cut)
		frame.Choose(cut, cut)
		wantUntouched(t, "a refused call", whole, before)
	}
}

func TestNilAndEmptyAreAlike(t *testing.T) {
	for _, none := range [][]byte{nil, {}} {
		wantNoLoad(t, "P5.8: no bytes", 2, none, api.ErrFrame)
		wantNoLoad(t, "P5.8: no bytes", 1, none, api.ErrPlace)
		got, e := frame.UnpackSuper(none)
		wantSuper(t, "P5.8: no bytes", got, e, api.Super{}, api.ErrFrame)
		wantNone(t, "no bytes twice", none, none, api.ErrCorrupt)
		wantNone(t, "generation 0, no bytes", block(gen(0, 2, 0)), none, api.ErrCorrupt)
		wantNone(t, "no bytes, zeros", none, make([]byte, 256), api.ErrCorrupt)
	}
}
