package txn_test

import (
	"bytes"
	"fmt"
	"testing"

	"ledger/api"
	"ledger/audit"
)

// making is a call that makes a version: its word, the number that a refusal tells, what it does, and what it lays into the order if it comes through.
type making struct {
	word string
	at   func(r *rig) int
	call func(r *rig) (int, error)
	came func(r *rig)
}

// finishOf tells the Finish of a transaction with writes.
func finishOf(id int) making {
	return making{
		"finish", func(r *rig) int { return id },
		func(r *rig) (int, error) { return r.m.Finish(id) },
		func(r *rig) { *r.order = append(*r.order, done{r.acts[id], true}) },
	}
}

// commitOf tells a direct Commit.
func commitOf(cs []api.Change) making {
	return making{
		"commit", func(r *rig) int { return r.b.w.last() + 1 },
		func(r *rig) (int, error) { return r.m.Commit(raw(cs...)) },
		func(r *rig) { r.came(cs) },
	}
}

// falls lets power go at an act of a call that makes a version of these changes, asks what the Manager is like without power and behind the crash, and tells whether the version came through: the world has it then.
func (r *rig) falls(m making, cs []api.Change, act int, fates []byte) bool {
	r.Helper()
	pages, at := r.b.w.price(cs), m.at(r)
	r.d.Arm(act)
	if version, err := m.call(r); version != 0 || !isRefusal(err, m.word, at, api.ErrDown) {
		r.fails("power goes at act %d: %s = %d, %v", act, m.word, version, err)
	}
	r.tells() // it stays open, as it was
	r.lies(api.ErrDown)
	open := 1
	if act <= pages+1 {
		open = min(act, pages)
	}
	if n := r.d.Crash(fates); n != open {
		r.fails("%d writes were open, want %d", n, open)
	}
	r.lies(api.ErrStale)
	through := act >= pages+2 && len(fates) > 0 && fates[0]%2 == 1
	if through {
		m.came(r)
		r.b.w.commit(cs)
	}
	return through
}

// lies asks that a Manager is dead, without asking all, and that Open tells what it told.
func (r *rig) lies(why api.Errno) {
	r.Helper()
	r.b.w.dead = why
	for _, id := range []int{-1, 1, 2, 99} {
		r.reads(id, keyK)
		r.ranges(id, keyQ, keyK)
		r.write(id, put(keyK, "dead"))
		r.finishes(id, why)
		r.abort(id)
	}
	r.begin()
	r.tells()
}

// someFates goes through choices of which sectors of so many open writes reach the disk: every one of at most two writes; of more none, all, and drawn ones.
func someFates(open int, each func(fates []byte)) {
	if open <= 2 {
		for n := range 1 << (4 * open) {
			each([]byte{byte(n & 15), byte(n >> 4)}[:open])
		}
		return
	}
	each(make([]byte, open))
	each(bytes.Repeat([]byte{15}, open))
	n := drawn(open)
	for range 40 {
		fates := make([]byte, open)
		n.Read(fates)
		each(fates)
	}
}

// beside is what others commit ahead of the loss of power.
var beside = put(key(66), "beside")

// lossCases are the changes in whose making power goes.
func lossCases() map[string][]api.Change {
	return map[string][]api.Change{
		"no effect":   {put(keyK, "a"), del(key(77))},
		"one goes":    {del(keyQ)},
		"another one": {put(keyK, "z")},
		"two keys":    {put(keyQ, "y"), put(key(9), "")},
	}
}

// P18.7, P18.11, P18.13, P18.14, W3, W4: power goes at every act of a Finish and of a direct Commit, beside open transactions, at the newest version and behind commits of others.
func TestPowerGoes(t *testing.T) {
	for name, cs := range lossCases() {
		for _, direct := range []bool{false, true} {
			for _, behind := range []bool{false, true} {
				t.Run(fmt.Sprintf("%s, direct %t, behind others %t", name, direct, behind), func(t *testing.T) {
					t.Parallel()
					eachAct(t, cs, direct, behind)
				})
			}
		}
	}
}

// eachAct lets power go at each act.
func eachAct(t *testing.T, cs []api.Change, direct, behind bool) {
	whole := begun(t, "W3", 60, 4, 4)
	whole.commits(put(keyK, "a"), put(keyQ, "b"))
	whole.commits(put(key(200), "c"))
	ahead := whole.b.w.twin()
	if behind {
		ahead.commit([]api.Change{beside})
	}
	pages := ahead.price(cs)
	for act := 1; act <= pages+4; act++ {
		open := 1
		if act <= pages+1 {
			open = min(act, pages)
		}
		someFates(open, func(fates []byte) {
			if !t.Failed() {
				r := whole.reopened(1 + act%4)
				r.promise = fmt.Sprintf("W3: act %d, fates %v", act, fates)
				r.loses(cs, direct, behind, act, fates)
			}
		})
	}
}

// loses begins some transactions, lets power go in the making of a version, and goes on behind the crash.
func (r *rig) loses(cs []api.Change, direct, behind bool, act int, fates []byte) {
	r.Helper()
	for range 3 {
		r.begin()
	}
	r.reads(1, key(200))
	r.all(2)
	r.write(2, put(keyK, "never"))
	r.write(1, cs...)
	r.reads(3, keyQ)
	if behind {
		r.commits(beside)
	}
	m := finishOf(1)
	if direct {
		m = commitOf(cs)
	}
	if act > r.b.w.price(cs)+3 {
		r.goesOn(m, act)
		return
	}
	used := r.b.w.used
	below := r.d.Image()[512 : 256*used]
	r.falls(m, cs, act, fates)
	if fmt.Sprint(r.m.Open()) != "[1 2 3]" {
		r.fails("P18.7: open are %v", r.m.Open())
	}
	old := r.m
	r.opens(3)
	if !bytes.Equal(r.d.Image()[512:256*used], below) {
		r.fails("W6: a page below the mark is another one")
	}
	r.isSerial()
	if fates[0]%4 != byte(act)%4 { // the rest is slow: it is asked of some
		return
	}
	r.begin()
	r.reads(1, keyK)
	r.all(1)
	r.write(1, put(keyQ, "behind"))
	r.finishes(1, api.OK)
	if _, err := old.Finish(1); !isRefusal(err, "finish", 1, api.ErrStale) {
		r.fails("P18.14: the old Manager: %v", err)
	}
	r.isSerial()
	if report, e := audit.Check(r.d.Image()); e != api.OK || len(report.Findings) != 0 || report.Last != r.b.w.last() {
		r.fails("W8: %+v, %v", report, e)
	}
}

// goesOn asks that power that goes behind the last act of a call does not touch it.
func (r *rig) goesOn(m making, act int) {
	r.Helper()
	r.d.Arm(act)
	if m.word == "finish" {
		r.finishes(1, api.OK)
	} else if _, err := m.call(r); err != nil {
		r.fails("%v", err)
	}
	if !r.d.Power() {
		r.fails("more acts than %d", act-1)
	}
}

// P18.13, P18.14: power goes again and again; what was open is gone each time, and nothing of it is in any version.
func TestPowerGoesAgainAndAgain(t *testing.T) {
	t.Parallel()
	r := begun(t, "P18.14", 200, 4, 4)
	for i := range 60 {
		for range 3 {
			r.begin()
		}
		r.all(1)
		r.write(1, put(keyK, fmt.Sprint(i)))
		r.write(2, put(keyQ, "open"))
		r.write(3, put(key(9), "aborted"))
		r.abort(3)
		cs := []api.Change{put(keyK, fmt.Sprint(i))}
		r.falls(finishOf(1), cs, 1+i%(r.b.w.price(cs)+3), []byte{byte(i), byte(i >> 1), byte(3 * i), byte(5 * i)})
		r.opens(1 + i%4)
		r.isSerial()
	}
}

// A crash outside of any call takes what is open, and no version.
func TestCrashBetweenCalls(t *testing.T) {
	r := begun(t, "P18.14", 400, 4, 4)
	for i := range 10 {
		r.begin()
		r.begin()
		r.reads(1, keyK)
		r.write(1, put(keyK, fmt.Sprint(i)))
		r.write(2, put(keyQ, "lost"))
		r.finishes(1, api.OK)
		if n := r.d.Crash([]byte{15, 15, 15}); n != 0 {
			r.fails("%d writes were open", n)
		}
		r.lies(api.ErrStale)
		r.opens(1 + i)
		r.holds()
		r.isSerial()
	}
}
