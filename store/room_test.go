package store_test

import (
	"math/rand"
	"testing"

	"ledger/api"
)

// P8.8: the same calls over rooms of 0, 1 and more: all answers, the images and all counts but the reads are the same.
func TestRoomIsNotSeen(t *testing.T) {
	for seed := range int64(100) {
		var stores []*rig
		for _, room := range []int{0, 1, 2, 5, 4096} {
			stores = append(stores, begun(t, "P8.8", 24, room))
		}
		rnd := rand.New(rand.NewSource(seed))
		for i := range 250 {
			call := anyCall(rnd)
			want := call(stores[0])
			for _, r := range stores[1:] {
				if got := call(r); got != want {
					want.behind.image, got.behind.image = "", "" // too long to be told
					t.Fatalf("P8.8: seed %d, call %d: room 0 answers %+v, room %d %+v", seed, i, want, r.room, got)
				}
			}
		}
	}
}

// answer is what a call told, and all that may be asked behind it but the tally and the reads.
type answer struct {
	number int
	load   string
	e      api.Errno
	behind seen
}

// anyCall tells a call that does the same to each store.
func anyCall(rnd *rand.Rand) func(r *rig) answer {
	number, kind, load := rnd.Intn(28)-1, 1+rnd.Intn(3), text(rnd.Intn(1000), rnd.Intn(247))
	acts, chance := rnd.Intn(10), rnd.Intn(100)
	fates := make([]byte, rnd.Intn(6))
	rnd.Read(fates)
	return func(r *rig) (a answer) {
		switch {
		case chance < 35:
			a.number, a.e = r.s.Stage(kind, load)
		case chance < 65:
			var l []byte
			a.number, l, a.e = r.s.Load(number)
			a.load = string(l)
		case chance < 80:
			a.e = r.s.Flush(number)
		case chance < 86:
			a.e = r.s.Rewind(number)
		case chance < 91:
			r.d.Arm(acts)
		case r.s.Live() != api.OK || chance < 93:
			r.d.Crash(fates)
			*r = *over(r.T, r.promise, r.d, r.room)
		}
		a.behind = r.seen()
		a.behind.tally, a.behind.counts.Reads = api.Tally{}, 0
		return a
	}
}
