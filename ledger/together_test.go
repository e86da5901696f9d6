package ledger_test

import (
	"fmt"
	"sync"
	"testing"

	"ledger/api"
	"ledger/ledger"
)

// P16.20: several goroutines commit to one ledger at the same time: each version is one of their batches, whole, and none is lost.
func TestCommitsTogether(t *testing.T) {
	const workers, each = 8, 25
	r := begun(t, "P16.20", 4096, 4, 5)
	made := make([]map[int]api.Change, workers)
	var wg sync.WaitGroup
	for w := range workers {
		made[w] = map[int]api.Change{}
		wg.Go(func() {
			for i := range each {
				c := put(keyOf(fmt.Sprintf("%03b%05b", w, i)), fmt.Sprint(w, i))
				v, err := r.l.Commit(raw(c))
				if err != nil {
					t.Errorf("P16.20: %v", err)
					return
				}
				made[w][v] = c
				if a, err := r.l.Get(c.Key[:], v); !a.Found || string(a.Val) != string(c.Val) || err != nil {
					t.Errorf("P16.20: Get behind the Commit of version %d: %+v, %v", v, a, err)
				}
			}
		})
	}
	wg.Wait()
	all := map[int]api.Change{}
	for _, part := range made {
		for v, c := range part {
			all[v] = c
		}
	}
	if len(all) != workers*each {
		t.Fatalf("P16.20: %d versions of %d", len(all), workers*each)
	}
	for v := 1; v <= workers*each; v++ {
		r.m.commit([]api.Change{all[v]})
		if cs, err := r.l.Diff(v-1, v); !sameChanges(cs, []api.Change{all[v]}) || err != nil {
			t.Errorf("P16.20: Diff(%d, %d) = %v, %v", v-1, v, cs, err)
		}
	}
	r.info()
	r.tallies(api.Tally{})
	r.open(3)
	r.info()
}

// P16.20: all calls at once, while versions come: each answers as if it came alone.
func TestAllCallsTogether(t *testing.T) {
	r := history(t, "P16.20", begun(t, "", 400, 4, 2))
	old := r.m.twin() // what the versions up to here say does not change
	reader := &rig{t, "P16.20", r.d, r.l, old, 2}
	keys := []api.Key{low, keyK, keyOf("0101"), high}
	var wg sync.WaitGroup
	stop := make(chan struct{})
	ask := func(one func(v int, k, m api.Key)) {
		wg.Go(func() {
			for i := 0; ; i++ {
				select {
				case <-stop:
					return
				default:
				}
				one(i%(old.last()+1), keys[i%4], keys[i/4%4])
			}
		})
	}
	ask(func(v int, k, m api.Key) { reader.get(k[:], v) })
	ask(func(v int, k, m api.Key) { reader.root(v) })
	ask(func(v int, k, m api.Key) { reader.prove(k[:], v) })
	ask(func(v int, k, m api.Key) { reader.span(k[:], m[:], v) })
	ask(func(v int, k, m api.Key) { reader.scan(k[:], m[:], v, 1) })
	ask(func(v int, k, m api.Key) { reader.diff(v, old.last()-v) })
	ask(func(v int, k, m api.Key) {
		sum, n, err := r.l.Preview(raw())
		if err != nil || n != 1 || sum == (api.Digest{}) {
			t.Errorf("P16.20: Preview = %x, %d, %v", sum, n, err)
		}
	})
	ask(func(v int, k, m api.Key) {
		info, err := r.l.Info()
		root, why := r.l.Root(info.Last)
		if err != nil || why != nil || root != info.Sum || r.l.Live() != nil {
			t.Errorf("P16.20: Info tells %+v, %v, Root %x, %v", info, err, root, why)
		}
		if tally := r.l.Tally(); tally.Held != 0 || tally.Clean > 2 {
			t.Errorf("P16.17: the tally is %+v", tally)
		}
		if _, err := r.l.Commit(nil); ledger.Code(err) != api.ErrForm {
			t.Errorf("P16.20: %v", err)
		}
	})
	for i := range 60 {
		c := put(keys[i%4], fmt.Sprint(i))
		if v, err := r.l.Commit(raw(c)); v != r.m.last()+1 || err != nil {
			t.Errorf("P16.20: Commit = %d, %v", v, err)
		}
		r.m.commit([]api.Change{c})
	}
	close(stop)
	wg.Wait()
	r.info()
}
