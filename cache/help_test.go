package cache_test

import (
	"slices"
	"testing"

	"ledger/api"
	"ledger/cache"
)

const (
	highest = int(^uint(0) >> 1)
	lowest  = -highest - 1
)

// rows holds the clean and the held keys, each row in its order, against those that are wanted.
func rows[K comparable, V any](t *testing.T, promise string, c *cache.Cache[K, V], clean, held []K) {
	t.Helper()
	if got := c.Keys(); !slices.Equal(got, clean) {
		t.Errorf("%s: Keys %v, want %v", promise, got, clean)
	}
	if got := c.Held(); !slices.Equal(got, held) {
		t.Errorf("%s: Held %v, want %v", promise, got, held)
	}
}

// gets holds one Get against the value that is wanted, or against none.
func gets[K, V comparable](t *testing.T, promise string, c *cache.Cache[K, V], k K, v V, found bool) {
	t.Helper()
	if got, ok := c.Get(k); got != v || ok != found {
		t.Errorf("%s: Get(%v): %v, %v, want %v, %v", promise, k, got, ok, v, found)
	}
}

// tallies holds the counts against those that are wanted.
func tallies[K comparable, V any](t *testing.T, promise string, c *cache.Cache[K, V], hits, misses, gone, clean, held int) {
	t.Helper()
	want := api.Tally{Hits: hits, Misses: misses, Gone: gone, Clean: clean, Held: held}
	if got := c.Tally(); got != want {
		t.Errorf("%s: Tally %+v, want %+v", promise, got, want)
	}
}

// filled makes a cache of strings under numbers: its clean ones are put in their order, so that the last is the newest; then the held ones are held. Its values tell the keys.
func filled(room int, clean, held []int) *cache.Cache[int, string] {
	c := cache.New[int, string](room)
	for _, k := range clean {
		c.Put(k, name("put", k))
	}
	for _, k := range held {
		c.Hold(k, name("hold", k))
	}
	return c
}

// name tells a value for a small key.
func name(how string, k int) string { return how + string(rune('0'+k)) }
