package disk_test

import (
	"bytes"
	"slices"
	"testing"

	"ledger/api"
	"ledger/disk"
)

// acts tells how many acts a disk does, Syncs and Writes by turns, ahead of the one at which power goes.
func acts(t *testing.T, d *disk.Disk, most int) int {
	t.Helper()
	both := []func() api.Errno{d.Sync, func() api.Errno { return d.Write(1, p(1)) }}
	for i := range most {
		if e := both[i%2](); e != api.OK {
			wantErr(t, "an act", e, api.ErrDown)
			wantPower(t, d, false)
			return i
		}
		wantPower(t, d, true)
	}
	return most
}

// P4.8
func TestArmCountsActs(t *testing.T) {
	for n := 1; n <= 12; n++ {
		d := fresh(t, 3)
		d.Arm(n)
		for range n - 1 {
			wantErr(t, "a Write ahead", d.Write(0, p(1)), api.OK)
		}
		wantPower(t, d, true)
		wantErr(t, "the Write", d.Write(2, p(7)), api.ErrDown)
		wantPower(t, d, false)
		wantCounts(t, d, 0, n, 0, n)

		d = fresh(t, 3)
		d.Arm(n)
		for range n - 1 {
			wantErr(t, "a Sync ahead", d.Sync(), api.OK)
		}
		wantErr(t, "the Sync", d.Sync(), api.ErrDown)
		wantPower(t, d, false)
		wantCounts(t, d, 0, 0, n-1, 0)
	}
}

// P4.8: the acts that came ahead of the Arm do not count.
func TestArmCountsFromNowOn(t *testing.T) {
	d := fresh(t, 3)
	wantErr(t, "Write", d.Write(0, p(1)), api.OK)
	wantErr(t, "Sync", d.Sync(), api.OK)
	d.Arm(2)
	wantErr(t, "Write", d.Write(0, p(2)), api.OK)
	wantErr(t, "Sync", d.Sync(), api.ErrDown)
	wantImage(t, d, p(1), p(0), p(0))
	wantCrash(t, d, 1, 15)
	wantImage(t, d, p(2), p(0), p(0))
}

// P4.8
func TestRefusedCallsAreNoActs(t *testing.T) {
	d := fresh(t, 3)
	d.Arm(2)
	for range 5 {
		wantErr(t, "Write", d.Write(-1, p(1)), api.ErrPage)
		wantErr(t, "Write", d.Write(3, p(1)), api.ErrPage)
		wantErr(t, "Write", d.Write(0, unlike(255)), api.ErrSize)
		wantErr(t, "Write", d.Write(0, unlike(257)), api.ErrSize)
		wantNone(t, d, 3, api.ErrPage)
		wantNone(t, d, -1, api.ErrPage)
		wantPage(t, d, 0, p(0))
		wantErr(t, "Flip", d.Flip(0, 0, 0), api.OK)
		wantErr(t, "Flip", d.Flip(0, 2048, 0), api.ErrArg)
		d.Image()
		d.Pages()
		d.Epoch()
		d.Claim()
		d.Power()
		d.Counts()
	}
	wantPower(t, d, true)
	wantErr(t, "the first act", d.Write(0, p(1)), api.OK)
	wantErr(t, "Write", d.Write(0, nil), api.ErrSize)
	wantErr(t, "the second act", d.Write(0, p(2)), api.ErrDown)
	wantCounts(t, d, 5, 2, 0, 2)
}

// P4.8
func TestArmOverArm(t *testing.T) {
	for _, c := range []struct {
		name  string
		arms  []int
		ahead int
	}{
		{"none", nil, 20},
		{"once", []int{4}, 3},
		{"lower", []int{9, 2}, 1},
		{"higher", []int{2, 9}, 8},
		{"the same", []int{3, 3, 3}, 2},
		{"off", []int{3, 0}, 20},
		{"off by -1", []int{1, -1}, 20},
		{"off by the lowest", []int{1, lowest}, 20},
		{"off and on", []int{3, 0, 5}, 4},
		{"0", []int{0}, 20},
		{"below", []int{-7}, 20},
		{"far away", []int{highest}, 20},
	} {
		d := fresh(t, 3)
		for _, n := range c.arms {
			d.Arm(n)
		}
		if got := acts(t, d, 20); got != c.ahead {
			t.Errorf("%s: %d acts ahead of the loss, want %d", c.name, got, c.ahead)
		}
	}
}

// P4.8: a count that has begun is forgotten too.
func TestArmForgetsWhatIsLeft(t *testing.T) {
	d := fresh(t, 3)
	d.Arm(5)
	wantErr(t, "Sync", d.Sync(), api.OK)
	wantErr(t, "Sync", d.Sync(), api.OK)
	d.Arm(5)
	if got := acts(t, d, 20); got != 4 {
		t.Errorf("%d acts ahead of the loss, want 4", got)
	}
	d.Crash(nil)
	d.Arm(5)
	wantErr(t, "Sync", d.Sync(), api.OK)
	d.Arm(0)
	if got := acts(t, d, 20); got != 20 {
		t.Errorf("%d acts of a disk that is not armed", got)
	}
}

// P4.8
func TestArmWithoutPower(t *testing.T) {
	for _, n := range []int{1, 2, 0, -1, highest} {
		d := without(t, 3)
		d.Arm(n)
		wantPower(t, d, false)
		wantErr(t, "Sync", d.Sync(), api.ErrDown)
		d.Crash(nil)
		if got := acts(t, d, 20); got != 20 {
			t.Errorf("Arm(%d) without power: %d acts", n, got)
		}
	}
}

// P4.8: behind a loss of power the disk is not armed; nothing of the old count is left.
func TestLossDisarms(t *testing.T) {
	d := fresh(t, 3)
	for range 3 {
		d.Arm(3)
		if got := acts(t, d, 20); got != 2 {
			t.Errorf("%d acts ahead of the loss, want 2", got)
		}
		d.Crash(nil)
		if got := acts(t, d, 20); got != 20 {
			t.Errorf("%d acts behind the crash, want 20", got)
		}
	}
}

// P4.6: the Write at which power goes is open and counted.
func TestLossAtWrite(t *testing.T) {
	d := fresh(t, 3)
	wantErr(t, "Write", d.Write(1, p(1)), api.OK)
	d.Arm(1)
	wantErr(t, "the armed Write", d.Write(1, p(2)), api.ErrDown)
	wantCounts(t, d, 0, 2, 0, 2)
	wantImage(t, d, p(0), p(0), p(0))
	wantCrash(t, d, 2, 3, 4)
	wantImage(t, d, p(0), quarters(1, 1, 2, 0), p(0))
}

// P4.7: the Sync at which power goes closes nothing and is not counted.
func TestLossAtSync(t *testing.T) {
	d := fresh(t, 3)
	wantErr(t, "Write", d.Write(1, p(1)), api.OK)
	wantErr(t, "Sync", d.Sync(), api.OK)
	wantErr(t, "Write", d.Write(1, p(2)), api.OK)
	wantErr(t, "Write", d.Write(2, p(3)), api.OK)
	d.Arm(1)
	wantErr(t, "the armed Sync", d.Sync(), api.ErrDown)
	wantCounts(t, d, 0, 3, 1, 2)
	wantImage(t, d, p(0), p(1), p(0))
	wantCrash(t, d, 2, 0, 15)
	wantImage(t, d, p(0), p(1), p(3))
}

// P4.9
func TestWithoutPower(t *testing.T) {
	d := fresh(t, 3)
	wantPower(t, d, true)
	wantErr(t, "Write", d.Write(0, p(1)), api.OK)
	wantErr(t, "Sync", d.Sync(), api.OK)
	wantErr(t, "Write", d.Write(1, p(2)), api.OK)
	d.Arm(1)
	wantErr(t, "Sync", d.Sync(), api.ErrDown)
	for range 3 {
		wantPower(t, d, false)
		wantNone(t, d, 0, api.ErrDown)
		wantNone(t, d, -1, api.ErrDown)
		wantNone(t, d, 3, api.ErrDown)
		wantErr(t, "Write", d.Write(0, p(3)), api.ErrDown)
		wantErr(t, "Write of no page", d.Write(-1, p(3)), api.ErrDown)
		wantErr(t, "Write of no bytes", d.Write(0, nil), api.ErrDown)
		wantErr(t, "Sync", d.Sync(), api.ErrDown)
		wantCounts(t, d, 0, 2, 1, 1)
		wantImage(t, d, p(1), p(0), p(0))
	}
	if d.Pages() != 3 || d.Epoch() != 0 || d.Claim() != 1 || d.Epoch() != 1 {
		t.Errorf("Pages, Epoch or Claim is another one without power")
	}
	wantErr(t, "Flip", d.Flip(2, 0, 1), api.OK)
	wantErr(t, "Flip", d.Flip(3, 0, 1), api.ErrPage)
	wantErr(t, "Flip", d.Flip(2, 2048, 1), api.ErrArg)
	wantImage(t, d, p(1), p(0), with(p(0), 0, 1))
	wantCrash(t, d, 1, 15)
	wantPower(t, d, true)
	wantImage(t, d, p(1), p(2), with(p(0), 0, 1))
}

// P4.10
func TestCrashBySectors(t *testing.T) {
	for fate := range 256 {
		for _, ahead := range []func(*disk.Disk){
			func(*disk.Disk) {},
			func(d *disk.Disk) { d.Arm(1); d.Sync() },
		} {
			d := loaded(t, unlike(3*256))
			want := d.Image()
			data := slices.Repeat([]byte{200, 100}, 128)
			wantErr(t, "Write", d.Write(1, data), api.OK)
			ahead(d)
			wantCrash(t, d, 1, byte(fate))
			for i := range 256 {
				if fate&(1<<(i/64)) != 0 {
					want[256+i] = data[i]
				}
			}
			wantImage(t, d, want)
			wantPage(t, d, 1, want[256:512])
		}
	}
}

// P4.10
func TestCrashOfTwoWrites(t *testing.T) {
	for a := range 16 {
		for b := range 16 {
			d := loaded(t, slices.Concat(p(9), p(9), p(9)))
			wantErr(t, "Write", d.Write(2, p(1)), api.OK)
			wantErr(t, "Write", d.Write(2, p(2)), api.OK)
			wantCrash(t, d, 2, byte(a), byte(b))
			var want [4]byte
			for j := range want {
				want[j] = 9
				if a&(1<<j) != 0 {
					want[j] = 1
				}
				if b&(1<<j) != 0 {
					want[j] = 2
				}
			}
			wantImage(t, d, p(9), p(9), quarters(want[0], want[1], want[2], want[3]))
		}
	}
}

// P4.10: fates belong to writes by their order, not by their pages; too few and too many may be handed in.
func TestCrashFates(t *testing.T) {
	for _, c := range []struct {
		fates []byte
		want  [][]byte
	}{
		{nil, [][]byte{p(0), p(0), p(0)}},
		{[]byte{}, [][]byte{p(0), p(0), p(0)}},
		{[]byte{15}, [][]byte{p(0), p(0), p(1)}},
		{[]byte{0, 15}, [][]byte{p(2), p(0), p(0)}},
		{[]byte{0, 0, 15}, [][]byte{p(0), p(3), p(0)}},
		{[]byte{0, 0, 0, 15}, [][]byte{p(0), p(0), p(4)}},
		{[]byte{15, 15, 15, 15}, [][]byte{p(2), p(3), p(4)}},
		{[]byte{15, 15, 15, 15, 15, 15, 255}, [][]byte{p(2), p(3), p(4)}},
		{[]byte{0, 0, 0, 0, 15, 15}, [][]byte{p(0), p(0), p(0)}},
		{[]byte{240, 32, 16, 128}, [][]byte{p(0), p(0), p(0)}},
		{[]byte{255, 241, 18, 0x84}, [][]byte{quarters(2, 0, 0, 0), quarters(0, 3, 0, 0), quarters(1, 1, 4, 1)}},
		{[]byte{8, 1, 6, 1}, [][]byte{quarters(2, 0, 0, 0), quarters(0, 3, 3, 0), quarters(4, 0, 0, 1)}},
	} {
		d := fresh(t, 3)
		for i, page := range []int{2, 0, 1, 2} {
			wantErr(t, "Write", d.Write(page, p(byte(i+1))), api.OK)
		}
		fates, whole := roomy(c.fates)
		ahead := slices.Clone(whole)
		wantCrash(t, d, 4, fates...)
		if !bytes.Equal(whole, ahead) {
			t.Errorf("the fates %v were changed", c.fates)
		}
		wantImage(t, d, c.want...)
		wantCounts(t, d, 0, 4, 0, 0)
	}
}

// P4.10
func TestCrashLeaves(t *testing.T) {
	for _, c := range []struct {
		name  string
		ahead func(d *disk.Disk)
	}{
		{"with power", func(*disk.Disk) {}},
		{"armed", func(d *disk.Disk) { d.Arm(1) }},
		{"armed for later", func(d *disk.Disk) { d.Arm(5) }},
		{"without power", func(d *disk.Disk) { d.Arm(1); d.Sync() }},
	} {
		t.Run(c.name, func(t *testing.T) {
			d := fresh(t, 3)
			wantErr(t, "Write", d.Write(0, p(1)), api.OK)
			wantErr(t, "Sync", d.Sync(), api.OK)
			wantPage(t, d, 0, p(1))
			wantErr(t, "Write", d.Write(1, p(2)), api.OK)
			wantErr(t, "Write", d.Write(1, p(3)), api.OK)
			d.Claim()
			c.ahead(d)
			wantCrash(t, d, 2, 15)
			wantPower(t, d, true)
			wantEpoch(t, d, 2)
			wantCounts(t, d, 1, 3, 1, 0)
			wantPage(t, d, 1, p(2))
			wantCrash(t, d, 0, 15, 15)
			wantEpoch(t, d, 3)
			wantCounts(t, d, 2, 3, 1, 0)
			wantErr(t, "Sync", d.Sync(), api.OK)
			wantImage(t, d, p(1), p(2), p(0))
			if got := acts(t, d, 20); got != 20 {
				t.Errorf("%d acts behind the crash, want 20", got)
			}
		})
	}
}

// P4.10: the fates of the next crash are counted from its own first open write on.
func TestCrashCountsAnew(t *testing.T) {
	d := fresh(t, 3)
	wantErr(t, "Write", d.Write(0, p(1)), api.OK)
	wantErr(t, "Write", d.Write(1, p(2)), api.OK)
	wantCrash(t, d, 2)
	wantErr(t, "Write", d.Write(2, p(3)), api.OK)
	wantErr(t, "Sync", d.Sync(), api.OK)
	wantErr(t, "Write", d.Write(1, p(4)), api.OK)
	wantCrash(t, d, 1, 15, 15)
	wantImage(t, d, p(0), p(4), p(3))
}
