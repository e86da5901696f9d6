package desk_test

import (
	"runtime"
	"slices"
	"strings"
	"testing"

	"ledger/desk"
)

// running tells whether a goroutine other than this one is in the desk's code. One that has ended may still be seen for a moment, so it is asked again and again.
func running() bool {
	for range 20000 {
		stacks := make([]byte, 1<<20)
		stacks = stacks[:runtime.Stack(stacks, true)]
		_, others, _ := strings.Cut(string(stacks), "\n\n")
		if !strings.Contains(others, "ledger/desk.") {
			return false
		}
		runtime.Gosched()
	}
	return true
}

// P20.9: all goroutines that Serve started have ended when it answers: those of a Serve that was served, stopped, refused, and of one in which power went.
func TestAllGoroutinesEnd(t *testing.T) {
	r := begun(t, "P20.9", 400, 4, 3).history()
	many := slices.Concat(everyRequest(-1), everyRequest(3), [][]byte{commit()}, everyRequest(-1), noFrames(), [][]byte{commit(), commit()}, everyRequest(1))
	rows := [][][]byte{nil, {info()}, many, slices.Concat(many, [][]byte{stop()}, many), {stop(), info()}, {commit()}, noFrames()}
	before := runtime.NumGoroutine()
	for workers := -1; workers <= 17; workers++ {
		for i, frames := range rows {
			desk.Serve(r.l, frames, workers)
			desk.Serve(nil, frames, workers)
			if running() {
				t.Fatalf("P20.9: %d workers, row %d: a goroutine is left", workers, i)
			}
		}
	}
	dead := r.twin(2)
	for act := 1; act <= 8; act++ {
		dead.d.Arm(act)
		desk.Serve(dead.l, many, 16)
		if running() {
			t.Fatalf("P20.9: power goes at act %d: a goroutine is left", act)
		}
		dead.d.Crash(nil)
		desk.Serve(dead.l, many, 16)
		dead.open(3)
	}
	if running() || runtime.NumGoroutine() > before {
		t.Errorf("P20.9: %d goroutines, from %d", runtime.NumGoroutine(), before)
	}
}
