package file_test

import (
	"bytes"
	"math/rand"
	"testing"

	"ledger/api"
	"ledger/disk"
	"ledger/file"
)

// plain is the chapter read word by word, over a twin disk to which the same is done.
type plain struct {
	d     *disk.Disk
	super api.Super
	next  int
	epoch int
}

// plainSuper tells what a slot's bytes say, if their first sector is a superblock that PackSuper could have laid.
func plainSuper(raw []byte) (api.Super, bool) {
	at := func(from, n int) (v int) {
		for i := n - 1; i >= 0; i-- {
			v = v<<8 | int(raw[from+i])
		}
		return v
	}
	s := super(at(4, 1), at(8, 8), at(16, 4), at(20, 4), at(24, 4))
	return s, s.Width > 0 && bytes.Equal(raw[:64], slot(s)[:64])
}

// plainChoose is P5.5 for the slots that a file's calls and losses of power leave.
func plainChoose(d *disk.Disk) (api.Super, api.Errno) {
	a, _ := d.Read(0)
	b, _ := d.Read(1)
	x, xs := plainSuper(a)
	y, ys := plainSuper(b)
	empty := make([]byte, 64)
	switch {
	case xs && ys && x.Generation == y.Generation+1:
		return x, api.OK
	case xs && ys && y.Generation == x.Generation+1:
		return y, api.OK
	case bytes.Equal(b[:64], empty) && (bytes.Equal(a[:64], empty) || xs && x.Generation == 0):
		return api.Super{}, api.ErrBlank
	}
	return api.Super{}, api.ErrCorrupt
}

func plainFormat(d *disk.Disk, width int) api.Errno {
	if !d.Power() {
		return api.ErrDown
	}
	if width < 1 || width > 32 {
		return api.ErrArg
	}
	if _, e := plainChoose(d); e != api.ErrBlank {
		return api.ErrTaken
	}
	for generation := range 2 {
		if d.Write(generation, slot(super(width, generation, 2, 0, d.Pages()))) != api.OK || d.Sync() != api.OK {
			return api.ErrDown
		}
	}
	return api.OK
}

func plainOpen(d *disk.Disk) (*plain, api.Errno) {
	if !d.Power() {
		return nil, api.ErrDown
	}
	s, e := plainChoose(d)
	if e != api.OK {
		return nil, e
	}
	return &plain{d, s, s.Mark, d.Claim()}, api.OK
}

func (p *plain) live() api.Errno {
	if p.d.Epoch() != p.epoch {
		return api.ErrStale
	}
	if !p.d.Power() {
		return api.ErrDown
	}
	return api.OK
}

func (p *plain) append(kind int, load []byte) (int, api.Errno) {
	e := p.live()
	switch {
	case e != api.OK:
		return 0, e
	case kind != 1 && kind != 2 && kind != 3:
		return 0, api.ErrKind
	case len(load) > 246:
		return 0, api.ErrLoad
	case p.next == p.d.Pages():
		return 0, api.ErrFull
	case p.d.Write(p.next, page(kind, p.next, load)) != api.OK:
		return 0, api.ErrDown
	}
	p.next++
	return p.next - 1, api.OK
}

func (p *plain) read(number int) (int, []byte, api.Errno) {
	if e := p.live(); e != api.OK {
		return 0, nil, e
	}
	if number < 2 || number >= p.next {
		return 0, nil, api.ErrPage
	}
	raw, _ := p.d.Read(number)
	kind, n := int(raw[0]), int(raw[1])
	if kind < 1 || kind > 3 || n > 246 || !bytes.Equal(raw, page(kind, number, raw[6:6+n])) {
		return 0, nil, api.ErrCorrupt
	}
	return kind, raw[6 : 6+n], api.OK
}

func (p *plain) publish(head int) api.Errno {
	e := p.live()
	s := super(p.super.Width, p.super.Generation+1, p.next, head, p.super.Pages)
	switch {
	case e != api.OK:
		return e
	case head != 0 && (head < 2 || head >= p.next):
		return api.ErrPage
	case p.d.Sync() != api.OK, p.d.Write(s.Generation%2, slot(s)) != api.OK, p.d.Sync() != api.OK:
		return api.ErrDown
	}
	p.super = s
	return api.OK
}

// pair is a disk and its twin, and the Files that were opened over both.
type pair struct {
	d, twin *disk.Disk
	files   []*file.File
	plains  []*plain
}

// TestPlainRows holds rows of calls against the plain reading: every answer, and what the disk is behind each call.
func TestPlainRows(t *testing.T) {
	for seed := range int64(300) {
		r := rand.New(rand.NewSource(seed))
		pages := 3 + r.Intn(12)
		p := &pair{d: fresh(t, pages), twin: fresh(t, pages)}
		for i := range 200 {
			p.disks(t, r)
			p.call(t, r)
			if p.d.Counts() != p.twin.Counts() || p.d.Epoch() != p.twin.Epoch() || p.d.Power() != p.twin.Power() || !bytes.Equal(p.d.Image(), p.twin.Image()) {
				t.Errorf("P6.10: the disks have gone unlike ways: %+v, %+v", p.d.Counts(), p.twin.Counts())
			}
			for i, f := range p.files {
				wantKept(t, "Super and Next", f, p.plains[i].super, p.plains[i].next)
				wantErr(t, "P6.4: Live", f.Live(), p.plains[i].live())
			}
			if t.Failed() {
				t.Fatalf("seed %d, row %d", seed, i)
			}
		}
	}
}

// disks does now and then something to both disks behind the Files' backs.
func (p *pair) disks(t *testing.T, r *rand.Rand) {
	t.Helper()
	number, bit, pattern, fates := r.Intn(p.d.Pages()), r.Intn(2048), uint32(1)<<r.Intn(32)|1, make([]byte, r.Intn(5))
	r.Read(fates)
	acts := 1 + r.Intn(6)
	chance := r.Intn(100)
	for _, d := range []*disk.Disk{p.d, p.twin} {
		switch {
		case chance < 8:
			d.Arm(acts)
		case chance < 12, !d.Power() && chance < 60:
			d.Crash(fates)
		case chance < 14:
			d.Claim()
		case chance < 16 && number >= 2:
			d.Flip(number, bit, pattern)
		case chance < 17:
			d.Sync()
		}
	}
}

// call asks the same of a File and of its plain reading.
func (p *pair) call(t *testing.T, r *rand.Rand) {
	t.Helper()
	kind := r.Intn(12)
	if kind == 0 {
		width := r.Intn(35) - 1
		wantErr(t, "P6.1: Format", file.Format(p.d, width), plainFormat(p.twin, width))
	}
	if kind == 1 || len(p.files) == 0 {
		f, e := file.Open(p.d)
		want, we := plainOpen(p.twin)
		wantErr(t, "P6.3: Open", e, we)
		if (f == nil) != (want == nil) {
			t.Fatalf("P6.3: %v, want %v", f, want)
		}
		if f != nil {
			p.files, p.plains = append(p.files, f), append(p.plains, want)
		}
		return
	}
	// Mostly the File that was opened last: the others are stale.
	i := len(p.files) - 1
	if r.Intn(6) == 0 {
		i = r.Intn(len(p.files))
	}
	f, want := p.files[i], p.plains[i]
	number := r.Intn(p.d.Pages()+3) - 1
	switch {
	case kind < 6:
		k, load := 1+r.Intn(3), text(r.Int(), r.Intn(247))
		if r.Intn(10) == 0 {
			k, load = r.Intn(6)-1, text(1, 244+r.Intn(5))
		}
		got, e := f.Append(k, load)
		wantNumber, we := want.append(k, load)
		if got != wantNumber || e != we {
			t.Errorf("P6.5: Append: %d, %v, want %d, %v", got, e, wantNumber, we)
		}
	case kind < 8:
		k, load, e := f.Read(number)
		wk, wl, we := want.read(number)
		if k != wk || !bytes.Equal(load, wl) || e != we {
			t.Errorf("P6.6: Read(%d): %d, %v, %v, want %d, %v, %v", number, k, load, e, wk, wl, we)
		}
	case kind < 11:
		wantErr(t, "P6.7: Publish", f.Publish(number), want.publish(number))
	default:
		f.Forget()
		want.next = want.super.Mark
	}
}
