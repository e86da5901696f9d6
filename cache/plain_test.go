package cache_test

import (
	"fmt"
	"math/rand"
	"slices"
	"testing"

	"ledger/api"
	"ledger/cache"
)

type pair struct{ key, value int }

// plain reads the promises word by word: two rows as lists, searched from end to end.
type plain struct {
	room        int
	clean, held []pair
	counts      api.Tally
}

func at(row []pair, k int) int {
	return slices.IndexFunc(row, func(p pair) bool { return p.key == k })
}

func (p *plain) newest(k, v int) {
	if i := at(p.clean, k); i >= 0 {
		p.clean = slices.Delete(p.clean, i, i+1)
	}
	p.clean = slices.Insert(p.clean, 0, pair{k, v})
}

func (p *plain) trim() {
	for len(p.clean) > max(p.room, 0) {
		p.clean = p.clean[:len(p.clean)-1]
		p.counts.Gone++
	}
}

func (p *plain) get(k int) (int, bool) {
	if i := at(p.held, k); i >= 0 {
		p.counts.Hits++
		return p.held[i].value, true
	}
	if i := at(p.clean, k); i >= 0 {
		p.counts.Hits++
		v := p.clean[i].value
		p.newest(k, v)
		return v, true
	}
	p.counts.Misses++
	return 0, false
}

func (p *plain) put(k, v int) {
	if i := at(p.held, k); i >= 0 {
		p.held[i].value = v
		return
	}
	p.newest(k, v)
	p.trim()
}

func (p *plain) hold(k, v int) {
	if i := at(p.held, k); i >= 0 {
		p.held[i].value = v
		return
	}
	if i := at(p.clean, k); i >= 0 {
		p.clean = slices.Delete(p.clean, i, i+1)
	}
	p.held = append(p.held, pair{k, v})
}

func (p *plain) settle() {
	for _, h := range p.held {
		p.newest(h.key, h.value)
	}
	p.held = nil
	p.trim()
}

func (p *plain) release(from int) {
	p.held = p.held[:min(max(from, 0), len(p.held))]
}

// step does one call, drawn by chance, on both, and tells it.
func step(r *rand.Rand, c *cache.Cache[int, int], p *plain, keys int) (string, bool) {
	k, v := r.Intn(keys), r.Int()
	switch n := r.Intn(100); {
	case n < 30:
		want, found := p.get(k)
		got, ok := c.Get(k)
		return fmt.Sprintf("P7.4: Get(%d)", k), got == want && ok == found
	case n < 60:
		p.put(k, v)
		c.Put(k, v)
		return fmt.Sprintf("P7.5: Put(%d)", k), true
	case n < 85:
		p.hold(k, v)
		c.Hold(k, v)
		return fmt.Sprintf("P7.6: Hold(%d)", k), true
	case n < 91:
		p.settle()
		c.Settle()
		return "P7.7: Settle()", true
	default:
		from := r.Intn(len(p.held)+4) - 2
		p.release(from)
		c.Release(from)
		return fmt.Sprintf("P7.8: Release(%d)", from), true
	}
}

// same asks that both tell the same rows and counts.
func same(c *cache.Cache[int, int], p *plain) bool {
	isKey := func(k int, q pair) bool { return k == q.key }
	want := p.counts
	want.Clean, want.Held = len(p.clean), len(p.held)
	return slices.EqualFunc(c.Keys(), p.clean, isKey) && slices.EqualFunc(c.Held(), p.held, isKey) && c.Tally() == want
}

// TestRandomRows holds rows of calls against the plain reading, behind each call.
func TestRandomRows(t *testing.T) {
	for seed := range int64(300) {
		r := rand.New(rand.NewSource(seed))
		room, keys := r.Intn(12)-2, 1+r.Intn(20)
		c, p := cache.New[int, int](room), &plain{room: room}
		for n := range 300 {
			call, ok := step(r, c, p, keys)
			if !ok || !same(c, p) {
				t.Fatalf("%s: seed %d, room %d, call %d: Keys %v, Held %v, %+v, want %+v", call, seed, room, n, c.Keys(), c.Held(), c.Tally(), *p)
			}
			if len(c.Keys()) > max(room, 0) {
				t.Fatalf("P7.10: seed %d, room %d, call %d: %s", seed, room, n, call)
			}
		}
	}
}

// TestRandomRowsOfMaxRoom does so in the greatest room there is, asked for by greater numbers.
func TestRandomRowsOfMaxRoom(t *testing.T) {
	for seed := range int64(3) {
		r := rand.New(rand.NewSource(seed))
		c, p := cache.New[int, int](highest), &plain{room: 4096}
		for k := range 4090 {
			c.Put(-1-k, k)
			p.put(-1-k, k)
		}
		for n := range 300 {
			call, ok := step(r, c, p, 200)
			if !ok || !same(c, p) {
				t.Fatalf("%s: seed %d, call %d: %+v, want %+v", call, seed, n, c.Tally(), p.counts)
			}
		}
	}
}
