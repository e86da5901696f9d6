package audit_test

import (
	"bytes"
	"fmt"
	"testing"

	"ledger/api"
	"ledger/audit"
	"ledger/disk"
	"ledger/ledger"
)

// fatesOf goes through every choice of which sectors of so many open writes reach the disk.
func fatesOf(open int, each func(fates []byte)) {
	for n := range 1 << (4 * open) {
		fates := make([]byte, open)
		for i := range fates {
			fates[i] = byte(n >> (4 * i) & 15)
		}
		each(fates)
	}
}

// P17.13: power goes at each act of a Create, with every choice of what reaches the disk: behind it the image is blank or clean, and so it is while the power is gone.
func TestPowerLostInACreate(t *testing.T) {
	for act := 1; act <= 4; act++ {
		for fate := range byte(16) {
			name := fmt.Sprintf("P17.13: act %d, fate %d", act, fate)
			d := blank(t, 8)
			d.Arm(act)
			if _, err := ledger.Create(d, 4, 8); ledger.Code(err) != api.ErrDown {
				t.Fatal(err)
			}
			refusesAll(t, name+": without power", d.Image(), api.ErrBlank)
			d.Crash([]byte{fate})
			if act >= 3 && fate%2 == 1 {
				checks(t, name, d.Image(), api.Report{Width: 4, Pages: 8, Mark: 2})
			} else {
				refusesAll(t, name, d.Image(), api.ErrBlank)
				if _, err := ledger.Create(d, 9, 8); err != nil {
					t.Fatal(err)
				}
				checks(t, name+": created anew", d.Image(), api.Report{Width: 9, Pages: 8, Mark: 2})
			}
		}
	}
}

// P17.13: power goes at each act of each commit of the story, with every choice of what reaches the disk where there are few: the image is clean ahead of the crash, behind it, and behind the commits that come then.
func TestPowerLostInCommits(t *testing.T) {
	for number, cs := range story() {
		t.Run(fmt.Sprint(number+1), func(t *testing.T) {
			t.Parallel()
			before := committed(t, 40, 4, story()[:number]...)
			used := len(usedPagesBehind(number)) // pages that the commit appends
			for act := 1; act <= used+3; act++ {
				open := min(act, used)
				if act >= used+2 {
					open = 1
				}
				each := func(fates []byte) { powerLost(t, before, number, act, cs, fates, act >= used+2 && fates[0]%2 == 1) }
				if open <= 2 {
					fatesOf(open, each)
					continue
				}
				for seed := range 12 {
					each([]byte(text(seed*act, open)))
				}
			}
		})
	}
}

// usedPagesBehind tells the pages that the story's version behind one of that number appends.
func usedPagesBehind(number int) []int {
	ends := []int{1, 7, 11, 12, 14, 18, 19, 21}
	return between(ends[number]+1, ends[number+1])
}

// powerLost lets power go in one commit, and asks what the image is then.
func powerLost(t *testing.T, before []byte, number, act int, cs []api.Change, fates []byte, through bool) {
	t.Helper()
	name := fmt.Sprintf("P17.13: version %d, act %d, fates %v", number+1, act, fates)
	d, l := loaded(t, before)
	d.Arm(act)
	if _, err := l.Commit(raw(cs...)); ledger.Code(err) != api.ErrDown {
		t.Fatal(name, err)
	}
	isClean(t, name+": without power", d.Image(), number)
	d.Crash(fates)
	last := number
	if through {
		last++
	}
	isClean(t, name, d.Image(), last)
	l, err := ledger.Open(d, 4)
	if err != nil {
		t.Fatal(name, err)
	}
	if _, err := l.Commit(raw(put(keyB, "behind"))); err != nil {
		t.Fatal(name, err)
	}
	isClean(t, name+": one more", d.Image(), last+1)
}

// loaded opens a ledger over a disk with a copy of an image.
func loaded(t *testing.T, image []byte) (*disk.Disk, *ledger.Ledger) {
	t.Helper()
	d, e := disk.Load(image)
	if e != api.OK {
		t.Fatal(e)
	}
	l, err := ledger.Open(d, 4)
	if err != nil {
		t.Fatal(err)
	}
	return d, l
}

// isClean asks that an image is clean and what its last version is.
func isClean(t *testing.T, promise string, image []byte, last int) {
	t.Helper()
	if r, e := audit.Check(image); e != api.OK || len(r.Findings) > 0 || r.Last != last || r.Records != last-max(r.First, 1)+1 {
		t.Errorf("%s: Check = %+v, %v, want version %d", promise, r, e, last)
	}
}

// P17.13: the image is clean at any time: behind each commit, behind previews and commits that are refused, behind openings.
func TestCleanAtAnyTime(t *testing.T) {
	t.Parallel()
	d, l := created(t, 30, 4)
	for number, cs := range append(story(), nil, list(put(last, "too much"), put(keyK, "")), nil) {
		name := fmt.Sprintf("P17.13: list %d", number)
		was, err := l.Info()
		if err != nil {
			t.Fatal(err)
		}
		l.Preview(raw(cs...))
		l.Commit([]byte("no batch"))
		isClean(t, name+": ahead", d.Image(), was.Last)
		v, err := l.Commit(raw(cs...))
		if ledger.Code(err) == api.ErrFull {
			v = was.Last
		} else if err != nil {
			t.Fatal(err)
		}
		isClean(t, name, d.Image(), v)
		allAsRead(t, name, d.Image())
		d.Crash([]byte{15, 15})
		isClean(t, name+": a crash", d.Image(), v)
		if l, err = ledger.Open(d, 3); err != nil {
			t.Fatal(err)
		}
		isClean(t, name+": opened", d.Image(), v)
	}
}

// P17.13: power that goes in a base's publishing, as an import lays it, leaves the empty ledger or the base.
func TestPowerLostInABase(t *testing.T) {
	t.Parallel()
	whole := laid(t, 30, 4, 9, story()[0])
	for act := 1; act <= 10; act++ {
		for _, fate := range []byte{0, 1, 6, 15} {
			name := fmt.Sprintf("P17.13: act %d, fate %d", act, fate)
			x := scribes(t, 30, 4)
			x.d.Arm(act)
			if e := x.flushes(9, story()[0]); (e == api.OK) != (act == 10) {
				t.Fatal(name, e)
			}
			isBlankOf(t, name+": ahead of the crash", x.d.Image(), whole, act == 10)
			x.d.Crash([]byte{fate, fate, fate, fate, fate, fate})
			isBlankOf(t, name, x.d.Image(), whole, act == 10 || act >= 8 && fate%2 == 1)
		}
	}
}

// isBlankOf asks that an image is that of the empty ledger, or has the used pages of a whole one, and is clean.
func isBlankOf(t *testing.T, promise string, image, whole []byte, is bool) {
	t.Helper()
	want := api.Report{Width: 4, Pages: 30, Mark: 2}
	if is {
		want = asReport(t, whole)
		if !bytes.Equal(image[512:256*want.Mark], whole[512:256*want.Mark]) {
			t.Errorf("%s: the pages are others", promise)
		}
	}
	checks(t, promise, image, want)
}
