package disk_test

import (
	"slices"
	"testing"

	"ledger/api"
	"ledger/disk"
)

// The rows of the chapter's examples, by their numbers.

func TestExample1(t *testing.T) {
	for _, pages := range []int{2, 4097} {
		if d, e := disk.New(pages); d != nil || e != api.ErrPages {
			t.Errorf("New(%d): %v", pages, e)
		}
	}
	fresh(t, 3)
	for _, c := range []struct {
		image []byte
		want  api.Errno
	}{{make([]byte, 767), api.ErrSize}, {make([]byte, 512), api.ErrPages}, {nil, api.ErrPages}} {
		if d, e := disk.Load(c.image); d != nil || e != c.want {
			t.Errorf("Load of %d bytes: %v, want %v", len(c.image), e, c.want)
		}
	}
	if d := loaded(t, make([]byte, 768)); d.Pages() != 3 {
		t.Errorf("%d pages of 768 bytes", d.Pages())
	}
}

func TestExamples2And3(t *testing.T) {
	d := fresh(t, 3)
	wantNone(t, d, 3, api.ErrPage)
	wantErr(t, "Write(-1, nil)", d.Write(-1, nil), api.ErrPage)
	wantErr(t, "Write(0, 255 bytes)", d.Write(0, make([]byte, 255)), api.ErrSize)
	wantErr(t, "Write(2, P(7))", d.Write(2, p(7)), api.OK)
	wantPage(t, d, 2, p(7))
	if got := d.Image()[512]; got != 0 {
		t.Errorf("Image()[512]: %d", got)
	}
	wantCounts(t, d, 1, 1, 0, 1)

	wantErr(t, "Sync", d.Sync(), api.OK)
	if got := d.Image()[512]; got != 7 {
		t.Errorf("Image()[512]: %d", got)
	}
	wantCounts(t, d, 1, 1, 1, 0)
	wantErr(t, "Sync", d.Sync(), api.OK)
	wantCounts(t, d, 1, 1, 2, 0)
}

func TestExamples4And5(t *testing.T) {
	for _, c := range []struct {
		fates []byte
		want  []byte
	}{
		{[]byte{3, 6}, quarters(1, 2, 2, 0)},
		{[]byte{15}, p(1)},
		{nil, p(0)},
		{[]byte{240, 240}, p(0)},
	} {
		d := fresh(t, 3)
		wantErr(t, "Write(1, P(1))", d.Write(1, p(1)), api.OK)
		wantErr(t, "Write(1, P(2))", d.Write(1, p(2)), api.OK)
		wantCrash(t, d, 2, c.fates...)
		wantPage(t, d, 1, c.want)
	}
}

func TestExample6(t *testing.T) {
	d := fresh(t, 3)
	d.Arm(2)
	wantErr(t, "Write(0, P(5))", d.Write(0, p(5)), api.OK)
	wantErr(t, "Write(9, P(5))", d.Write(9, p(5)), api.ErrPage)
	wantErr(t, "Sync", d.Sync(), api.ErrDown)
	wantPower(t, d, false)
	wantNone(t, d, 0, api.ErrDown)
	wantErr(t, "Write(9, nil)", d.Write(9, nil), api.ErrDown)
	if got := d.Counts().Open; got != 1 {
		t.Errorf("Open: %d", got)
	}
	wantCrash(t, d, 1, 1)
	wantPage(t, d, 0, quarters(5, 0, 0, 0))
	wantPower(t, d, true)
}

func TestExample7(t *testing.T) {
	d := fresh(t, 3)
	d.Arm(1)
	wantErr(t, "Write(0, P(5))", d.Write(0, p(5)), api.ErrDown)
	wantCounts(t, d, 0, 1, 0, 1)
	wantCrash(t, d, 1, 15)
	wantPage(t, d, 0, p(5))
}

func TestExample8(t *testing.T) {
	d := fresh(t, 3)
	for _, disarm := range []func(){func() { d.Arm(0) }, func() { d.Crash(nil) }} {
		d.Arm(3)
		disarm()
		for page := range 3 {
			wantErr(t, "Write", d.Write(page, p(1)), api.OK)
		}
	}
}

func TestExample9(t *testing.T) {
	d := fresh(t, 3)
	wantErr(t, "Flip(1, 2047, 3)", d.Flip(1, 2047, 3), api.OK)
	wantImage(t, d, p(0), with(p(0), 255, 128), p(0))
	wantErr(t, "Flip(1, 2048, 0)", d.Flip(1, 2048, 0), api.ErrArg)
	wantErr(t, "Flip(-1, 5000, 0)", d.Flip(-1, 5000, 0), api.ErrPage)

	d = loaded(t, slices.Concat(p(1), p(2), p(3)))
	wantErr(t, "Write", d.Write(1, p(9)), api.OK)
	wantErr(t, "Flip", d.Flip(1, 0, 1), api.OK)
	wantPage(t, d, 1, p(9))
	wantErr(t, "Sync", d.Sync(), api.OK)
	wantImage(t, d, p(1), p(9), p(3))
}

func TestExample10(t *testing.T) {
	d := fresh(t, 3)
	if got := d.Claim(); got != 1 {
		t.Errorf("Claim: %d", got)
	}
	wantEpoch(t, d, 1)
	wantCrash(t, d, 0)
	wantEpoch(t, d, 2)
	if got := d.Claim(); got != 3 {
		t.Errorf("Claim: %d", got)
	}
}
