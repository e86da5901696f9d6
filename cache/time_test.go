package cache_test

import (
	"testing"
	"time"

	"ledger/cache"
)

// shortest tells the shortest of some tries at a row of calls, so that what else the machine does is not seen.
func shortest(calls func()) time.Duration {
	best := time.Hour
	for range 5 {
		start := time.Now()
		calls()
		best = min(best, time.Since(start))
	}
	return best
}

// crowded makes a cache with as many held ones as are asked for, and a full room.
func crowded(held int) *cache.Cache[int, int] {
	c := cache.New[int, int](4096)
	for k := range held {
		c.Hold(k, k)
	}
	for k := range 4096 {
		c.Put(-1-k, k)
	}
	return c
}

// TestTimeDoesNotGrow holds calls among many held ones against the same calls among few. A search from end to end would take some 20000 times as long.
func TestTimeDoesNotGrow(t *testing.T) {
	few, many := crowded(10), crowded(200000)
	for _, call := range []struct {
		name string
		do   func(c *cache.Cache[int, int], k int)
	}{
		{"Get of a held key", func(c *cache.Cache[int, int], k int) { c.Get(c.Tally().Held - 1 - k%10) }},
		{"Get of a clean key", func(c *cache.Cache[int, int], k int) { c.Get(-1 - k%10) }},
		{"Get of no key", func(c *cache.Cache[int, int], k int) { c.Get(1<<40 + k) }},
		{"Put of a held key", func(c *cache.Cache[int, int], k int) { c.Put(c.Tally().Held-1-k%10, k) }},
		{"Put of a clean key", func(c *cache.Cache[int, int], k int) { c.Put(-1-k%10, k) }},
		{"Hold of a held key", func(c *cache.Cache[int, int], k int) { c.Hold(c.Tally().Held-1-k%10, k) }},
	} {
		thousand := func(c *cache.Cache[int, int]) func() {
			return func() {
				for k := range 1000 {
					call.do(c, k)
				}
			}
		}
		a, b := shortest(thousand(few)), shortest(thousand(many))
		if b > 200*a+time.Millisecond {
			t.Errorf("P7.11: %s: %v among few, %v among many", call.name, a, b)
		}
	}
}
