package cache_test

import (
	"runtime"
	"slices"
	"testing"

	"ledger/api"
	"ledger/cache"
)

// TestListsAreNewMemory writes into what Keys and Held answer, and into the spare room behind it.
func TestListsAreNewMemory(t *testing.T) {
	c := filled(4, []int{1, 2, 3}, []int{4, 5, 6})
	ask := []func() []int{c.Keys, c.Held}
	for i, tell := range ask {
		first, other := tell(), ask[1-i]()
		keep := slices.Clone(first)
		keepOther := slices.Clone(other)
		second := tell()
		scribble(first)
		if !slices.Equal(second, keep) || !slices.Equal(other, keepOther) {
			t.Errorf("P7.9: one list changed another: %v, %v", second, other)
		}
		rows(t, "P7.9", c, []int{3, 2, 1}, []int{4, 5, 6})
	}
}

// TestListsStay asks that what was told does not change with what comes later.
func TestListsStay(t *testing.T) {
	c := filled(3, []int{1, 2, 3}, []int{4, 5, 6})
	keys, held := c.Keys(), c.Held()
	c.Get(1)
	c.Put(7, "x")
	c.Release(1)
	c.Hold(8, "y")
	c.Settle()
	if !slices.Equal(keys, []int{3, 2, 1}) || !slices.Equal(held, []int{4, 5, 6}) {
		t.Errorf("P7.9: what was told is %v, %v now", keys, held)
	}
}

func scribble(list []int) {
	whole := list[:cap(list)]
	for i := range whole {
		whole[i] = -99
	}
}

// TestTellingChangesNothing asks that Keys, Held and Tally move no key and count nothing.
func TestTellingChangesNothing(t *testing.T) {
	c := filled(3, []int{1, 2, 3}, []int{4, 5})
	c.Get(2)
	c.Get(9)
	for range 3 {
		rows(t, "P7.9", c, []int{2, 3, 1}, []int{4, 5})
		tallies(t, "P7.9", c, 1, 1, 0, 3, 2)
	}
	c.Put(6, "x")
	rows(t, "P7.9", c, []int{6, 2, 3}, []int{4, 5})
}

// TestValuesAsTheyAre asks that what a slice, pointer or map leads to is kept, not copied.
func TestValuesAsTheyAre(t *testing.T) {
	c := cache.New[int, []byte](2)
	text := []byte("abc")
	c.Put(1, text)
	c.Hold(2, text[1:])
	text[1] = 'x'
	a, _ := c.Get(1)
	b, _ := c.Get(2)
	if string(a) != "axc" || string(b) != "xc" || &a[0] != &text[0] || cap(a) != cap(text) {
		t.Errorf("P7.4: a slice was not given back as it was: %q, %q", a, b)
	}
	c.Settle()
	if b, _ = c.Get(2); &b[0] != &text[1] {
		t.Errorf("P7.7: a slice was not given back as it was")
	}

	p := cache.New[int, *int](1)
	n := 5
	p.Put(1, &n)
	if got, found := p.Get(1); got != &n || !found {
		t.Errorf("P7.4: a pointer was not given back as it was")
	}
	p.Put(1, nil)
	if got, found := p.Get(1); got != nil || !found {
		t.Errorf("P7.4: nil was not given back as it was: %v, %v", got, found)
	}
}

// TestValuesAreCopies asks that values without pointers are not changed from outside.
func TestValuesAreCopies(t *testing.T) {
	c := cache.New[[2]int, [2]int](2)
	k, v := [2]int{1, 2}, [2]int{3, 4}
	c.Put(k, v)
	k[0], v[0] = 9, 9
	gets(t, "P7.4", c, [2]int{1, 2}, [2]int{3, 4}, true)
	gets(t, "P7.4", c, [2]int{9, 2}, [2]int{}, false)
}

func TestCachesBesideOneAnother(t *testing.T) {
	a, b := filled(2, []int{1, 2}, []int{3}), filled(2, []int{1, 2}, []int{3})
	a.Put(1, "x")
	a.Put(4, "y")
	a.Hold(3, "z")
	a.Hold(5, "w")
	a.Get(9)
	rows(t, "P7.1", b, []int{2, 1}, []int{3})
	tallies(t, "P7.2", b, 0, 0, 0, 2, 1)
	gets(t, "P7.4", b, 3, "hold3", true)
	gets(t, "P7.4", b, 1, "put1", true)
	b.Release(0)
	b.Put(7, "v")
	rows(t, "P7.1", a, []int{4, 1}, []int{3, 5})
	tallies(t, "P7.2", a, 0, 1, 1, 2, 2)
	rows(t, "P7.2", cache.New[int, string](2), nil, nil)
}

// goes leads a cache over three unlike keys through each call, whatever their type.
func goes[K comparable](t *testing.T, what string, a, b, d K) {
	t.Helper()
	c := cache.New[K, int](2)
	c.Put(a, 1)
	c.Put(b, 2)
	gets(t, "P7.4: "+what, c, a, 1, true)
	gets(t, "P7.4: "+what, c, d, 0, false)
	c.Put(d, 3)
	rows(t, "P7.5: "+what, c, []K{d, a}, nil)
	c.Hold(b, 4)
	c.Hold(a, 5)
	rows(t, "P7.6: "+what, c, []K{d}, []K{b, a})
	c.Release(1)
	rows(t, "P7.8: "+what, c, []K{d}, []K{b})
	c.Settle()
	rows(t, "P7.7: "+what, c, []K{b, d}, nil)
	tallies(t, "P7.9: "+what, c, 1, 1, 1, 2, 0)
}

func TestKeysOfSeveralTypes(t *testing.T) {
	type pair struct {
		n    int
		name string
	}
	x, y, z := 1, 1, 1
	goes(t, "int", 0, -1, highest)
	goes(t, "byte", byte(0), 255, 1)
	goes(t, "string", "", "a", "a\x00")
	goes(t, "float64", 0.0, 1.5, -2.5)
	goes(t, "complex128", 0i, 1i, 1+1i)
	goes(t, "api.Key", api.Key{}, api.Key{31: 1}, api.Key{0: 1})
	goes(t, "pair", pair{}, pair{1, ""}, pair{1, "a"})
	goes(t, "pointer", &x, &y, &z)
	goes(t, "nil pointer", nil, &y, &z)
	goes[any](t, "any", nil, 1, "1")
	goes[any](t, "any of two kinds", int8(1), int16(1), int32(1))
}

// TestKeyOfOneValue takes a type that has one value alone.
func TestKeyOfOneValue(t *testing.T) {
	type only struct{}
	c := cache.New[only, string](3)
	c.Put(only{}, "a")
	c.Put(only{}, "b")
	rows(t, "P7.1", c, []only{{}}, nil)
	c.Hold(only{}, "c")
	rows(t, "P7.1", c, nil, []only{{}})
	gets(t, "P7.4", c, only{}, "c", true)
	c.Release(0)
	gets(t, "P7.8", c, only{}, "", false)
	tallies(t, "P7.9", c, 1, 1, 0, 0, 0)
}

// TestEqualZeros takes two floats that are equal and have unlike bits.
func TestEqualZeros(t *testing.T) {
	zero := 0.0
	c := cache.New[float64, int](2)
	c.Put(zero, 1)
	c.Put(-zero, 2)
	tallies(t, "P7.1", c, 0, 0, 0, 1, 0)
	gets(t, "P7.5", c, zero, 2, true)
}

func TestValuesOfSeveralTypes(t *testing.T) {
	f := cache.New[int, func() int](1)
	f.Put(1, func() int { return 7 })
	if call, found := f.Get(1); !found || call() != 7 {
		t.Errorf("P7.4: a function was not given back")
	}
	if call, found := f.Get(2); found || call != nil {
		t.Errorf("P7.4: a function was found under no key")
	}
	e := cache.New[string, error](1)
	e.Put("down", api.ErrDown)
	if got, found := e.Get("down"); !found || got != api.ErrDown {
		t.Errorf("P7.4: an error was not given back")
	}
	if got, found := e.Get("up"); found || got != nil {
		t.Errorf("P7.4: %v under no key", got)
	}
	n := cache.New[int, struct{}](1)
	n.Hold(1, struct{}{})
	gets(t, "P7.4", n, 1, struct{}{}, true)
	in := cache.New[int, *cache.Cache[int, string]](1)
	in.Put(1, filled(1, []int{1}, nil))
	if got, found := in.Get(1); !found || !slices.Equal(got.Keys(), []int{1}) {
		t.Errorf("P7.4: a cache within a cache was not given back")
	}
}

// TestNothingIsKeptAlive asks that values that went or were released can be collected: nothing is kept that no promise needs.
func TestNothingIsKeptAlive(t *testing.T) {
	const n, size = 64, 1 << 20
	c := cache.New[int, []byte](1)
	for i := range n {
		c.Put(i, make([]byte, size))
	}
	for i := range n {
		c.Hold(-1-i, make([]byte, size))
	}
	c.Release(1)
	runtime.GC()
	var m runtime.MemStats
	runtime.ReadMemStats(&m)
	if m.HeapAlloc > n/2*size {
		t.Errorf("P7.3, P7.8: %d bytes are alive beside two values of %d", m.HeapAlloc, size)
	}
	tallies(t, "P7.9", c, 0, 0, n-1, 1, 1)
	runtime.KeepAlive(c)
}
