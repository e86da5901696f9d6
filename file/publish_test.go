package file_test

import (
	"bytes"
	"testing"

	"ledger/api"
	"ledger/disk"
	"ledger/file"
)

// P6.7: the heads that may be.
func TestPublishHeads(t *testing.T) {
	d, f := laid(t)
	for _, head := range []int{lowest, -1, 1, 4, 5, 8, 4096, 1<<32 + 2, highest} {
		wantUntouched(t, "P6.7: Publish", d, func() { wantErr(t, "P6.7: a head that may not be", f.Publish(head), api.ErrPage) })
	}
	wantKept(t, "P6.7", f, super(4, 2, 3, 2, 8), 4)
	for i, head := range []int{0, 2, 3, 3, 0} {
		wantErr(t, "P6.7: Publish", f.Publish(head), api.OK)
		wantKept(t, "P6.7: Publish", f, super(4, 3+i, 4, head, 8), 4)
	}
}

// P6.7: a file without a page has no head but 0.
func TestPublishAnEmptyFile(t *testing.T) {
	d, f := made(t, 3, 4)
	for _, head := range []int{1, 2, 3, -2} {
		wantErr(t, "P6.7: Publish", f.Publish(head), api.ErrPage)
	}
	wantErr(t, "P6.8: Publish(0)", f.Publish(0), api.OK)
	wantKept(t, "P6.8: Publish(0)", f, super(4, 2, 2, 0, 3), 2)
	wantKept(t, "P6.8: opened again", opened(t, d), super(4, 2, 2, 0, 3), 2)
}

// P6.7, 'Slots': one write, two syncs, no read; the image is the old one with the pages and the one slot.
func TestPublishLaysOneSlot(t *testing.T) {
	d, f := made(t, 20, 4)
	want := d.Image()
	for generation := 2; generation < 12; generation++ {
		number := f.Next()
		wantAppend(t, f, 1, text(generation, 20), number)
		if !bytes.Equal(d.Image(), want) {
			t.Fatalf("P6.5: the image has changed ahead of a Publish")
		}
		wantActs(t, "P6.7: Publish", d, 0, 1, 2, func() { wantErr(t, "P6.7: Publish", f.Publish(number), api.OK) })
		s := super(4, generation, number+1, number, 20)
		copy(want[256*number:], page(1, number, text(generation, 20)))
		copy(want[256*(generation%2):], slot(s))
		if !bytes.Equal(d.Image(), want) || d.Counts().Open != 0 {
			t.Errorf("P6.7: generation %d: another image, or %+v", generation, d.Counts())
		}
		wantKept(t, "P6.7: Publish", f, s, number+1)
	}
}

// P6.8: nothing was appended.
func TestPublishNothing(t *testing.T) {
	d, f := laid(t)
	f.Forget()
	for i, head := range []int{2, 0, 2} {
		wantActs(t, "P6.8: Publish", d, 0, 1, 2, func() { wantErr(t, "P6.8: Publish", f.Publish(head), api.OK) })
		s := super(4, 3+i, 3, head, 8)
		wantKept(t, "P6.8: Publish", f, s, 3)
		wantPage(t, "P6.8: Publish", d, (3+i)%2, slot(s))
	}
	wantKept(t, "P6.8: opened again", opened(t, d), super(4, 5, 3, 2, 8), 3)
}

// near tells a File whose superblock has a generation near the highest one.
func near(t *testing.T, generation int) (*disk.Disk, *file.File) {
	t.Helper()
	a, b := super(4, generation, 3, 0, 5), super(4, generation-1, 3, 0, 5)
	if generation%2 == 1 {
		a, b = b, a
	}
	d := loaded(t, image(5, slot(a), slot(b), page(1, 2, nil)))
	return d, opened(t, d)
}

// P6.7: the highest generation, and which error comes first there.
func TestPublishAtTheHighestGeneration(t *testing.T) {
	d, f := near(t, api.MaxGeneration-1)
	wantAppend(t, f, 1, nil, 3)
	wantErr(t, "P6.7: up to the highest", f.Publish(3), api.OK)
	wantKept(t, "P6.7: the highest", f, super(4, api.MaxGeneration, 4, 3, 5), 4)
	wantPage(t, "P6.7: the highest", d, 0, slot(super(4, api.MaxGeneration, 4, 3, 5)))

	d, f = near(t, api.MaxGeneration)
	wantAppend(t, f, 1, nil, 3)
	was := f.Super()
	wantUntouched(t, "P6.7: behind the highest", d, func() {
		for _, head := range []int{0, 2, 3} {
			wantErr(t, "P6.7: behind the highest", f.Publish(head), api.ErrFull)
		}
		for _, head := range []int{1, 4, -1} {
			wantErr(t, "P6.7: a wrong head there", f.Publish(head), api.ErrPage)
		}
	})
	wantKept(t, "P6.7: behind the highest", f, was, 4)
	if d.Counts().Open != 1 {
		t.Errorf("P6.7: %+v", d.Counts())
	}
	cut(t, d)
	wantErr(t, "P6.7: down there", f.Publish(1), api.ErrDown)
	d.Crash(nil)
	wantErr(t, "P6.7: stale there", f.Publish(1), api.ErrStale)
}

// P6.7: how many writes and syncs have come ahead of the act at which power goes.
func TestPublishEndsAtTheFirstErrDown(t *testing.T) {
	for act, want := range []api.Counts{{Open: 1}, {Writes: 1, Syncs: 1, Open: 1}, {Writes: 1, Syncs: 1, Open: 1}} {
		d, f := laid(t)
		was := d.Counts()
		d.Arm(act + 1)
		wantErr(t, "P6.7: Publish", f.Publish(3), api.ErrDown)
		now := d.Counts()
		if got := (api.Counts{Reads: now.Reads - was.Reads, Writes: now.Writes - was.Writes, Syncs: now.Syncs - was.Syncs, Open: now.Open}); got != want {
			t.Errorf("P6.7: power goes at act %d: %+v, want %+v", act+1, got, want)
		}
		wantKept(t, "P6.7: power has gone", f, super(4, 2, 3, 2, 8), 4)
		wantErr(t, "P6.4: Live", f.Live(), api.ErrDown)
		f.Forget()
		wantKept(t, "P6.9: Forget behind it", f, super(4, 2, 3, 2, 8), 3)
	}
	d, f := laid(t)
	d.Arm(4)
	wantErr(t, "P6.7: power goes behind it", f.Publish(3), api.OK)
	wantErr(t, "the fourth act", d.Sync(), api.ErrDown)
}

// P6.10: which calls read, write and sync, and how often.
func TestActsOfEachCall(t *testing.T) {
	d := fresh(t, 8)
	wantActs(t, "P6.10: Format", d, 2, 2, 2, func() { file.Format(d, 4) })
	wantActs(t, "P6.10: Format, taken", d, 2, 0, 0, func() { file.Format(d, 4) })
	var f *file.File
	wantActs(t, "P6.10: Open", d, 2, 0, 0, func() { f, _ = file.Open(d) })
	wantActs(t, "P6.10: Append", d, 0, 1, 0, func() { f.Append(1, nil) })
	wantActs(t, "P6.10: Read", d, 1, 0, 0, func() { f.Read(2) })
	wantActs(t, "P6.10: Publish", d, 0, 1, 2, func() { f.Publish(2) })
	for name, call := range map[string]func(){
		"Live":             func() { f.Live() },
		"Super":            func() { f.Super() },
		"Next":             func() { f.Next() },
		"Forget":           f.Forget,
		"Read of no page":  func() { f.Read(3) },
		"Append of none":   func() { f.Append(0, nil) },
		"Publish of none":  func() { f.Publish(9) },
		"Format(d, 0)":     func() { file.Format(d, 0) },
		"Format and nil":   func() { file.Format(nil, 4) },
		"the promoted one": func() { f.Counts() },
	} {
		wantUntouched(t, "P6.10: "+name, d, call)
	}
}

// P6.7: what somebody wrote behind the file's back does not change what a Publish lays down.
func TestPublishBehindItsBack(t *testing.T) {
	d, f := laid(t)
	wantErr(t, "Write", d.Write(0, text(1, 256)), api.OK)
	wantErr(t, "Write", d.Write(1, text(2, 256)), api.OK)
	wantErr(t, "P6.7: Publish", f.Publish(3), api.OK)
	wantPage(t, "P6.7: the other slot", d, 0, text(1, 256))
	wantPage(t, "P6.7: its slot", d, 1, slot(super(4, 3, 4, 3, 8)))
	wantErr(t, "P6.7: Publish", f.Publish(0), api.OK)
	wantKept(t, "P6.7: both slots laid anew", opened(t, d), super(4, 4, 4, 0, 8), 4)
}
