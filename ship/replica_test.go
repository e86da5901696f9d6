package ship_test

import (
	"bytes"
	"fmt"
	"testing"

	"ledger/api"
	"ledger/client"
	"ledger/ship"
)

// drawnLedger makes a ledger of drawn batches.
func drawnLedger(t *testing.T, promise string, seed, versions int) *rig {
	t.Helper()
	rnd := drawn(seed)
	width, room := []int{1, 2, 4, 32}[seed%4], 1+rnd.Intn(9)
	var r *rig
	if seed%3 == 0 {
		base := entries{}.behind(drawnBatch(rnd, 9))
		r = based(t, promise, 1500, width, room, 1+rnd.Intn(50), base)
	} else {
		r = begun(t, promise, 1500, width, room)
	}
	for range versions {
		r.commits(drawnBatch(rnd, 5)...)
	}
	return r
}

// P19.13, W8: Export, then Import, gives back: the same maps, roots and proofs, byte for byte; nothing below and above; and exported again the same stream. The auditor finds nothing.
func TestThereAndBack(t *testing.T) {
	for seed := range 12 {
		t.Run(fmt.Sprint("number ", seed), func(t *testing.T) {
			t.Parallel()
			r := drawnLedger(t, "P19.13", seed, 6)
			for from := r.first; from <= r.last(); from++ {
				for to := from; to <= r.last(); to++ {
					r.goesThereAndBack(from, to, 1+(from+to)%7)
				}
			}
		})
	}
}

// goesThereAndBack exports some versions, takes them in, and holds both ledgers against each other.
func (r *rig) goesThereAndBack(from, to, room int) {
	r.Helper()
	stream := r.export(from, to)
	other := imported(r.T, fmt.Sprintf("P19.13: versions %d to %d", from, to), 1500, room, stream)
	other.clean()
	for v := from; v <= to; v++ {
		keys := append(r.maps[v-r.first].rising(), keyK, keyOf("0110"), high)
		other.proves(r, v, keys...)
	}
	if again := other.export(from, -1); !bytes.Equal(again, stream) {
		other.fails("exported again it is another stream")
	}
	for _, v := range []int{0, from - 1, to + 1, highest} {
		want := api.ErrVersion
		if v < from {
			want = api.ErrGone
		}
		if v >= 0 && (v < from || v > to) {
			_, got := other.number(v)
			if _, err := ship.Export(other.l, v, v); got != want || !isRefusal(err, "export", v, want) {
				other.fails("version %d: %v, want %v", v, err, want)
			}
		}
	}
}

// P19.13: a proof of an imported ledger holds under the root that the first one told.
func TestProofsOfAnImportedLedger(t *testing.T) {
	r := begun(t, "P19.13", 60, 4, 3).history()
	other := imported(t, "P19.13", 60, 3, r.export(3, 6))
	for v := 3; v <= 6; v++ {
		sum, err := r.l.Root(v)
		if err != nil {
			t.Fatal(err)
		}
		for _, k := range []api.Key{keyK, keyQ, keyOf("0010"), high} {
			p, err := other.l.Prove(k[:], v)
			a, e := client.Verify(4, sum, k, p)
			val, has := r.maps[v][k]
			if err != nil || e != api.OK || a.Found != has || string(a.Val) != val {
				r.fails("version %d, key %.4x: %+v, %v, %v", v, k, a, err, e)
			}
		}
	}
}

// P19.14: a replica that follows is the ledger, however the versions are cut into streams: all ways to cut, each piece from any version that the replica has.
func TestReplicasByAllCuts(t *testing.T) {
	t.Parallel()
	r := begun(t, "P19.14", 60, 4, 3).commits(put(keyK, "a"))
	r.commits(put(keyQ, "b"), put(high, "")).commits().commits(del(keyK)).commits(put(keyK, "c"), del(high))
	want := r.export(1, -1)
	images := map[string]bool{}
	for cuts := range 1 << 4 {
		for back := range 3 {
			other := imported(t, fmt.Sprintf("P19.14: cut at %05b, %d back", cuts, back), 60, 4, r.export(1, 1))
			for v := 2; v <= 5; v++ {
				if v == 5 || cuts>>(v-2)&1 == 1 {
					// From an earlier version of the replica, its newest one, or one that it does not even have.
					other.follows(r.export(max(other.last()-back, 0), v))
				}
			}
			if !bytes.Equal(other.export(1, -1), want) {
				other.fails("it is another row of versions")
			}
			other.clean()
			images[string(other.d.Image())] = true
		}
	}
	if len(images) != 1 {
		t.Errorf("P19.14: %d images by unlike cuts", len(images))
	}
}

// P19.14: replicas of drawn ledgers that follow piece by piece while the ledger goes on, and are opened anew between.
func TestDrawnReplicas(t *testing.T) {
	for seed := range 16 {
		t.Run(fmt.Sprint("number ", seed), func(t *testing.T) {
			t.Parallel()
			rnd := drawn(1000 + seed)
			r := drawnLedger(t, "P19.14", seed, 4)
			from := r.first + rnd.Intn(4)
			other := imported(t, "P19.14", 1500, 3, r.export(from, from+rnd.Intn(r.last()-from+1)))
			for range 12 {
				switch rnd.Intn(4) {
				case 0:
					r.commits(drawnBatch(rnd, 5)...)
				case 1:
					other.d.Crash(nil)
					other.open(1 + rnd.Intn(8))
				default:
					begin := r.first + rnd.Intn(other.last()-r.first+1)
					end := other.last() + rnd.Intn(r.last()-other.last()+1)
					other.follows(r.export(begin, end))
				}
			}
			other.follows(r.export(other.last(), -1))
			if !bytes.Equal(other.export(from, -1), r.export(from, -1)) {
				other.fails("it is another row of versions")
			}
			other.clean()
		})
	}
}

// P19.14: a replica of a replica, and one that was thinned out on the way.
func TestReplicaOfAReplica(t *testing.T) {
	r := begun(t, "P19.14", 60, 4, 3).history()
	one := imported(t, "P19.14: one", 60, 3, r.export(1, 4))
	two := imported(t, "P19.14: two", 60, 3, one.export(3, 4))
	one.follows(r.export(0, 6))
	two.follows(one.export(2, -1))
	two.follows(r.export(5, -1))
	one.follows(two.export(4, -1))
	for _, other := range []*rig{one, two} {
		if !bytes.Equal(other.export(3, -1), r.export(3, -1)) {
			other.fails("it is another row of versions")
		}
		other.clean()
	}
}

// P19.15: an imported ledger is a ledger: it is committed to, power goes in a commit, it is opened anew; the versions stay, and each commit uses the pages that the document says.
func TestImportedLedgersGoOn(t *testing.T) {
	for seed := range 8 {
		t.Run(fmt.Sprint("number ", seed), func(t *testing.T) {
			t.Parallel()
			rnd := drawn(50 + seed)
			r := drawnLedger(t, "P19.15", seed, 5)
			from := r.first + rnd.Intn(4)
			other := imported(t, "P19.15", 1500, 3, r.export(from, -1))
			for i := range 15 {
				cs := drawnBatch(rnd, 5)
				if i%3 == 2 {
					other.fallsInACommit(cs, rnd.Intn(4))
				} else {
					other.commits(cs...)
				}
			}
			other.holds()
			other.clean()
			other.export(from, -1)
			copied := imported(t, "P19.15: taken in again", 1500, 3, other.export(other.last()-4, -1))
			copied.commits(put(keyK, "on")).holds()
		})
	}
}

// fallsInACommit lets power go at the write of the superblock, or ahead of it: the version comes through or does not.
func (r *rig) fallsInACommit(cs []api.Change, kind int) {
	r.Helper()
	before := r.maps[len(r.maps)-1]
	next := before.behind(cs)
	pages := cost(before, next) + 1
	r.d.Arm(pages + 2 - kind%2)
	if v, err := r.l.Commit(raw(cs...)); v != 0 || err == nil {
		r.fails("Commit = %d, %v", v, err)
	}
	r.d.Crash([]byte{byte(kind >> 1)})
	if kind == 2 {
		r.maps, r.used = append(r.maps, next), r.used+pages
	}
	r.open(3)
	r.holds()
}

// P19.13: a map of so many keys that no one Scan tells it, taken in and exported again.
func TestManyKeysThereAndBack(t *testing.T) {
	t.Parallel()
	base := entries{}
	for i, k := range many(1300) {
		base[k] = text(i, i%129)
	}
	s := tell(32, 4, base, base.behind([]api.Change{del(many(1300)[1299]), put(keyK, "x")}))
	r := imported(t, "P19.13", s.need(), 64, s.stream())
	r.export(4, 5)
	r.export(5, 5)
	r.clean()
	importIs(t, "P19.7", blank(t, s.need()-1), 64, s.stream(), -1, api.ErrFull)
}
