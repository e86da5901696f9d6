package file_test

import (
	"bytes"
	"math/rand"
	"testing"

	"ledger/api"
	"ledger/disk"
	"ledger/file"
)

// held is what a page was appended with.
type held struct {
	kind int
	load []byte
}

// wantState asks that a File has just this superblock and that each page below its mark reads as it was appended.
func wantState(t *testing.T, f *file.File, s api.Super, pages []held) {
	t.Helper()
	wantKept(t, "P6.11: opened again", f, s, s.Mark)
	for number := 2; number < f.Super().Mark && number-2 < len(pages); number++ {
		wantRead(t, f, number, pages[number-2].kind, pages[number-2].load)
	}
	wantNoRead(t, f, f.Super().Mark, api.ErrPage)
}

// round is one history: first pages are published, then others appended (forgotten ones ahead of them), then a Publish.
type round struct{ first, forgotten, more int }

// play goes through a history with power going at an act behind the first Publish, and tells the disk, the superblocks before and behind, and the pages.
func (r round) play(t *testing.T, act int) (d *disk.Disk, old, next api.Super, pages []held, e api.Errno) {
	t.Helper()
	const size = 12
	d, f := made(t, size, 4)
	add := func(n, seed int) api.Errno {
		for range n {
			h := held{1 + f.Next()%3, text(seed+f.Next(), 20*f.Next()%247)}
			if _, e := f.Append(h.kind, h.load); e != api.OK {
				return e
			}
			pages = append(pages[:f.Next()-3:f.Next()-3], h)
		}
		return api.OK
	}
	add(r.first, 100)
	wantErr(t, "Publish", f.Publish(lastOf(f)), api.OK)
	old = f.Super()
	d.Arm(act)
	if e = add(r.forgotten, 200); e == api.OK {
		f.Forget()
		e = add(r.more, 300)
	}
	next = super(4, old.Generation+1, old.Mark+r.more, old.Head, size)
	if e == api.OK {
		next.Head = lastOf(f)
		e = f.Publish(lastOf(f))
	}
	return d, old, next, pages, e
}

// lastOf tells a File's last page, 0 if there is none.
func lastOf(f *file.File) int {
	if f.Next() == 2 {
		return 0
	}
	return f.Next() - 1
}

// P6.11: power goes at each act, with all fates of what is open then.
func TestCrashLeavesAPublishedState(t *testing.T) {
	for _, r := range []round{{0, 0, 0}, {0, 0, 1}, {0, 0, 2}, {1, 0, 0}, {1, 0, 1}, {2, 0, 2}, {1, 1, 0}, {1, 1, 1}, {1, 2, 1}, {3, 1, 2}, {2, 0, 3}} {
		acts := r.forgotten + r.more + 3
		for act := 1; act <= acts; act++ {
			d, old, next, pages, e := r.play(t, act)
			wantErr(t, "P6.11: power goes", e, api.ErrDown)
			open := d.Counts().Open
			// The superblock's write is the act next to the last; with the last one it is still open.
			published := act >= acts-1
			if published && open != 1 {
				t.Errorf("P6.7: %+v: %d writes open at act %d", r, open, act)
			}
			allFates(open, func(fates []byte) {
				d, _, _, _, _ := r.play(t, act)
				d.Crash(fates)
				s := old
				if published && fates[0]%2 == 1 {
					s = next
				}
				wantState(t, opened(t, d), s, pages)
			})
			if t.Failed() {
				t.Fatalf("%+v, act %d", r, act)
			}
		}
		d, _, next, pages, e := r.play(t, acts+1)
		wantErr(t, "P6.7: power goes behind it", e, api.OK)
		d.Crash([]byte{15, 15})
		wantState(t, opened(t, d), next, pages)
	}
}

// P6.11: power goes ahead of a Publish, with no act under way: nothing but the last one that answered OK is there.
func TestCrashAheadOfAPublish(t *testing.T) {
	for n := range 4 {
		allFates(n, func(fates []byte) {
			d, f := made(t, 8, 4)
			for range n {
				f.Append(1, []byte("x"))
			}
			d.Crash(fates)
			wantState(t, opened(t, d), super(4, 1, 2, 0, 8), nil)
		})
	}
}

// P6.11, P6.12: long histories with many losses of power.
func TestManyCrashes(t *testing.T) {
	for seed := range int64(60) {
		r := rand.New(rand.NewSource(seed))
		d, f := made(t, 40, 1+r.Intn(32))
		h := &history{d: d, last: f.Super(), size: 40}
		for range 300 {
			f = h.step(t, r, f)
			if t.Failed() {
				t.Fatalf("seed %d", seed)
			}
		}
	}
}

// history keeps what the promises say of a disk: the last superblock that holds, the pages below its mark, and those above it.
type history struct {
	d     *disk.Disk
	size  int
	last  api.Super
	pages []held // from page 2 on, up to Next
	fixed []byte // the synced bytes of the pages from 2 up to the last mark
}

// step does one thing to a file that is live, and opens the disk again if power went.
func (h *history) step(t *testing.T, r *rand.Rand, f *file.File) *file.File {
	t.Helper()
	if r.Intn(12) == 0 {
		h.d.Arm(1 + r.Intn(6))
	}
	e, about := api.OK, h.last
	switch r.Intn(8) {
	case 0, 1, 2, 3:
		p := held{1 + r.Intn(3), text(r.Int(), r.Intn(247))}
		if _, e = f.Append(p.kind, p.load); e == api.OK {
			h.pages = append(h.pages, p)
		}
	case 4, 5:
		head := 0
		if f.Next() > 2 && r.Intn(4) > 0 {
			head = 2 + r.Intn(f.Next()-2)
		}
		about = super(h.last.Width, h.last.Generation+1, f.Next(), head, h.size)
		if e = f.Publish(head); e == api.OK {
			h.last = about
			h.fix(t)
		}
	case 6:
		f.Forget()
		h.pages = h.pages[:h.last.Mark-2]
	case 7:
		if r.Intn(3) == 0 {
			return h.again(t, r, h.last)
		}
	}
	if e == api.ErrDown {
		return h.again(t, r, about)
	}
	if e != api.OK && e != api.ErrFull {
		t.Errorf("step: %d (%v)", e, e)
	}
	return f
}

// again crashes the disk and opens it: the last superblock, or the one that was about to be written.
func (h *history) again(t *testing.T, r *rand.Rand, about api.Super) *file.File {
	t.Helper()
	fates := make([]byte, r.Intn(8))
	r.Read(fates)
	h.d.Crash(fates)
	f := opened(t, h.d)
	if f.Super() != h.last && f.Super() != about {
		t.Errorf("P6.11: %+v is there, neither %+v nor %+v", f.Super(), h.last, about)
	}
	h.last = f.Super()
	h.pages = h.pages[:h.last.Mark-2]
	wantState(t, f, h.last, h.pages)
	h.fix(t)
	return f
}

// fix asks that the bytes below the earlier mark are as they were, and keeps those below the new one.
func (h *history) fix(t *testing.T) {
	t.Helper()
	now := h.d.Image()[512 : 256*h.last.Mark]
	if len(now) < len(h.fixed) || !bytes.Equal(now[:len(h.fixed)], h.fixed) {
		t.Errorf("P6.12: a published page has changed")
	}
	h.fixed = now
}
