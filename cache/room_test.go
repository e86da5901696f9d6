package cache_test

import (
	"testing"

	"ledger/api"
	"ledger/cache"
)

var roomsKept = []struct{ room, kept int }{
	{lowest, 0}, {-4096, 0}, {-1, 0}, {0, 0}, {1, 1}, {2, 2}, {4095, 4095},
	{4096, 4096}, {4097, 4096}, {8192, 4096}, {highest, 4096},
}

func TestNewIsEmpty(t *testing.T) {
	for _, r := range roomsKept {
		c := cache.New[string, []byte](r.room)
		rows(t, "P7.2", c, nil, nil)
		tallies(t, "P7.2", c, 0, 0, 0, 0, 0)
		if v, ok := c.Get(""); v != nil || ok {
			t.Errorf("P7.2: room %d: Get finds %v, %v", r.room, v, ok)
		}
	}
}

func TestRoomOfPuts(t *testing.T) {
	const puts = 5000
	for _, r := range roomsKept {
		c := cache.New[int, int](r.room)
		for i := range puts {
			c.Put(i, -i)
			if n := c.Tally().Clean; n != min(i+1, r.kept) {
				t.Fatalf("P7.10: room %d: %d clean behind %d puts", r.room, n, i+1)
			}
		}
		tallies(t, "P7.3", c, 0, 0, puts-r.kept, r.kept, 0)
		newest(t, "P7.3", c, puts, r.kept)
	}
}

func TestRoomOfSettled(t *testing.T) {
	const holds = 5000
	for _, r := range roomsKept {
		c := cache.New[int, int](r.room)
		for i := range holds {
			c.Hold(i, -i)
		}
		tallies(t, "P7.6", c, 0, 0, 0, 0, holds)
		c.Settle()
		tallies(t, "P7.7", c, 0, 0, holds-r.kept, r.kept, 0)
		newest(t, "P7.7", c, holds, r.kept)
	}
}

// newest asks that just the last of the keys 0 to n-1 are clean, the highest as the newest, each with its value.
func newest(t *testing.T, promise string, c *cache.Cache[int, int], n, kept int) {
	t.Helper()
	keys := c.Keys()
	if len(keys) != kept {
		t.Fatalf("%s: %d keys, want %d", promise, len(keys), kept)
	}
	for i, k := range keys {
		if k != n-1-i {
			t.Fatalf("%s: at place %d the key %d, want %d", promise, i, k, n-1-i)
		}
	}
	for k := range n {
		want, found := 0, k >= n-kept
		if found {
			want = -k
		}
		gets(t, promise, c, k, want, found)
	}
}

func TestMaxRoom(t *testing.T) {
	if api.MaxRoom != 4096 {
		t.Errorf("P7.2: MaxRoom is %d", api.MaxRoom)
	}
}

// TestTrimTakesTheOldest uses some of the clean ones again, so that those that came first are not those that go.
func TestTrimTakesTheOldest(t *testing.T) {
	c := filled(3, []int{1, 2, 3}, nil)
	c.Get(1)
	c.Put(4, "d")
	rows(t, "P7.3", c, []int{4, 1, 3}, nil)
	c.Put(3, "c")
	c.Put(5, "e")
	rows(t, "P7.3", c, []int{5, 3, 4}, nil)
	tallies(t, "P7.3", c, 1, 0, 2, 3, 0)
	for _, k := range []int{1, 2} {
		gets(t, "P7.3", c, k, "", false)
	}
}

// TestHeldTakeNoRoom asks that held ones, few or many, push no clean one out, and that a full room hinders no Hold.
func TestHeldTakeNoRoom(t *testing.T) {
	c := filled(2, []int{1, 2}, []int{3, 4, 5, 6})
	rows(t, "P7.6", c, []int{2, 1}, []int{3, 4, 5, 6})
	tallies(t, "P7.6", c, 0, 0, 0, 2, 4)
	c.Put(7, "x")
	rows(t, "P7.5", c, []int{7, 2}, []int{3, 4, 5, 6})
	tallies(t, "P7.3", c, 0, 0, 1, 2, 4)
}
