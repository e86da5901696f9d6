package cache_test

import (
	"testing"

	"ledger/cache"
)

func TestGet(t *testing.T) {
	for _, k := range []struct {
		key   int
		value string
		found bool
		clean []int
	}{
		{1, "put1", true, []int{1, 3, 2}},
		{2, "put2", true, []int{2, 3, 1}},
		{3, "put3", true, []int{3, 2, 1}},
		{4, "hold4", true, []int{3, 2, 1}},
		{5, "hold5", true, []int{3, 2, 1}},
		{6, "hold6", true, []int{3, 2, 1}},
		{7, "", false, []int{3, 2, 1}},
	} {
		c := filled(3, []int{1, 2, 3}, []int{4, 5, 6})
		for n := 1; n <= 3; n++ {
			gets(t, "P7.4", c, k.key, k.value, k.found)
			rows(t, "P7.4", c, k.clean, []int{4, 5, 6})
			if k.found {
				tallies(t, "P7.4", c, n, 0, 0, 3, 3)
			} else {
				tallies(t, "P7.4", c, 0, n, 0, 3, 3)
			}
		}
	}
}

// TestGetOfZeroValue asks that a zero value that is kept is told from none.
func TestGetOfZeroValue(t *testing.T) {
	c := cache.New[int, string](1)
	c.Put(0, "")
	gets(t, "P7.4", c, 0, "", true)
	c.Hold(1, "")
	gets(t, "P7.4", c, 1, "", true)
	gets(t, "P7.4", c, 2, "", false)
	tallies(t, "P7.4", c, 2, 1, 0, 1, 1)
}

func TestPut(t *testing.T) {
	for _, k := range []struct {
		key         int
		clean, held []int
		gone        int
	}{
		{1, []int{1, 3, 2}, []int{4, 5, 6}, 0},
		{2, []int{2, 3, 1}, []int{4, 5, 6}, 0},
		{3, []int{3, 2, 1}, []int{4, 5, 6}, 0},
		{4, []int{3, 2, 1}, []int{4, 5, 6}, 0},
		{5, []int{3, 2, 1}, []int{4, 5, 6}, 0},
		{6, []int{3, 2, 1}, []int{4, 5, 6}, 0},
		{7, []int{7, 3, 2}, []int{4, 5, 6}, 1},
	} {
		c := filled(3, []int{1, 2, 3}, []int{4, 5, 6})
		c.Put(k.key, "new")
		rows(t, "P7.5", c, k.clean, k.held)
		tallies(t, "P7.5", c, 0, 0, k.gone, 3, 3)
		gets(t, "P7.5", c, k.key, "new", true)
		c.Put(k.key, "newer")
		tallies(t, "P7.5", c, 1, 0, k.gone, 3, 3)
		gets(t, "P7.5", c, k.key, "newer", true)
	}
}

func TestPutWithoutRoom(t *testing.T) {
	for _, room := range []int{-1, 0} {
		c := cache.New[int, string](room)
		c.Hold(1, "a")
		c.Put(1, "b")
		rows(t, "P7.5", c, nil, []int{1})
		gets(t, "P7.5", c, 1, "b", true)
		for n := 1; n <= 3; n++ {
			c.Put(2, "c")
			rows(t, "P7.5", c, nil, []int{1})
			tallies(t, "P7.5", c, 1, n-1, n, 0, 1)
			gets(t, "P7.5", c, 2, "", false)
		}
	}
}

func TestHold(t *testing.T) {
	for _, k := range []struct {
		key         int
		clean, held []int
	}{
		{1, []int{3, 2}, []int{4, 5, 6, 1}},
		{2, []int{3, 1}, []int{4, 5, 6, 2}},
		{3, []int{2, 1}, []int{4, 5, 6, 3}},
		{4, []int{3, 2, 1}, []int{4, 5, 6}},
		{5, []int{3, 2, 1}, []int{4, 5, 6}},
		{6, []int{3, 2, 1}, []int{4, 5, 6}},
		{7, []int{3, 2, 1}, []int{4, 5, 6, 7}},
	} {
		c := filled(3, []int{1, 2, 3}, []int{4, 5, 6})
		c.Hold(k.key, "new")
		rows(t, "P7.6", c, k.clean, k.held)
		tallies(t, "P7.6", c, 0, 0, 0, len(k.clean), len(k.held))
		gets(t, "P7.6", c, k.key, "new", true)
		c.Hold(k.key, "newer")
		rows(t, "P7.6", c, k.clean, k.held)
		gets(t, "P7.6", c, k.key, "newer", true)
	}
}

// TestHoldOfOnlyCleanKey empties the clean row through a Hold, and fills it again.
func TestHoldOfOnlyCleanKey(t *testing.T) {
	c := filled(1, []int{1}, nil)
	c.Hold(1, "a")
	rows(t, "P7.6", c, nil, []int{1})
	c.Put(2, "b")
	rows(t, "P7.5", c, []int{2}, []int{1})
	tallies(t, "P7.6", c, 0, 0, 0, 1, 1)
}

func TestSettle(t *testing.T) {
	for _, s := range []struct {
		room              int
		clean, held, want []int
		gone              int
	}{
		{3, nil, nil, nil, 0},
		{3, []int{1, 2}, nil, []int{2, 1}, 0},
		{3, nil, []int{4, 5}, []int{5, 4}, 0},
		{3, []int{1}, []int{4, 5}, []int{5, 4, 1}, 0},
		{3, []int{1, 2}, []int{4, 5}, []int{5, 4, 2}, 1},
		{3, []int{1, 2, 3}, []int{4}, []int{4, 3, 2}, 1},
		{3, []int{1, 2, 3}, []int{4, 5, 6}, []int{6, 5, 4}, 3},
		{3, []int{1, 2, 3}, []int{4, 5, 6, 7, 8}, []int{8, 7, 6}, 5},
		{1, []int{1}, []int{2, 3}, []int{3}, 2},
		{0, nil, []int{1, 2}, nil, 2},
	} {
		c := filled(s.room, s.clean, s.held)
		c.Settle()
		rows(t, "P7.7", c, s.want, nil)
		tallies(t, "P7.7", c, 0, 0, s.gone, len(s.want), 0)
		c.Settle()
		rows(t, "P7.7", c, s.want, nil)
		tallies(t, "P7.7", c, 0, 0, s.gone, len(s.want), 0)
		kept(t, "P7.7", c, s.held, "hold")
	}
}

// kept asks that a cache's clean keys that were held have the values with which they were.
func kept(t *testing.T, promise string, c *cache.Cache[int, string], keys []int, how string) {
	t.Helper()
	for _, k := range keys {
		if v, found := c.Get(k); found && v != name(how, k) {
			t.Errorf("%s: Get(%d): %q", promise, k, v)
		}
	}
}

// TestSettledGoOn asks that settled keys are clean ones like any other.
func TestSettledGoOn(t *testing.T) {
	c := filled(3, nil, []int{1, 2, 3})
	c.Settle()
	gets(t, "P7.7", c, 1, "hold1", true)
	rows(t, "P7.4", c, []int{1, 3, 2}, nil)
	c.Put(4, "d")
	rows(t, "P7.3", c, []int{4, 1, 3}, nil)
	c.Put(3, "c")
	rows(t, "P7.5", c, []int{3, 4, 1}, nil)
	c.Hold(4, "D")
	rows(t, "P7.6", c, []int{3, 1}, []int{4})
	c.Release(0)
	rows(t, "P7.8", c, []int{3, 1}, nil)
	gets(t, "P7.8", c, 4, "", false)
}

func TestRelease(t *testing.T) {
	for _, r := range []struct{ from, left int }{
		{lowest, 0}, {-3, 0}, {-1, 0}, {0, 0}, {1, 1}, {2, 2}, {3, 3}, {4, 4}, {5, 4}, {6, 4}, {highest, 4},
	} {
		held := []int{4, 5, 6, 7}
		c := filled(2, []int{1, 2}, held)
		c.Release(r.from)
		rows(t, "P7.8", c, []int{2, 1}, held[:r.left])
		tallies(t, "P7.8", c, 0, 0, 0, 2, r.left)
		for i, k := range held {
			if i < r.left {
				gets(t, "P7.8", c, k, name("hold", k), true)
			} else {
				gets(t, "P7.8", c, k, "", false)
			}
		}
	}
}

func TestReleaseOfNone(t *testing.T) {
	for _, from := range []int{lowest, -1, 0, 1, highest} {
		c := filled(2, []int{1, 2}, nil)
		c.Release(from)
		rows(t, "P7.8", c, []int{2, 1}, nil)
		tallies(t, "P7.8", c, 0, 0, 0, 2, 0)
	}
}

// TestReleasedComesAgain asks that a released key is new when it comes again: as a clean one, or as the last held one.
func TestReleasedComesAgain(t *testing.T) {
	c := filled(3, []int{1}, []int{4, 5, 6})
	c.Release(1)
	c.Hold(7, "x")
	c.Hold(5, "new")
	rows(t, "P7.8", c, []int{1}, []int{4, 7, 5})
	gets(t, "P7.8", c, 5, "new", true)
	c.Put(6, "clean")
	rows(t, "P7.8", c, []int{6, 1}, []int{4, 7, 5})
	gets(t, "P7.8", c, 6, "clean", true)
	c.Settle()
	rows(t, "P7.7", c, []int{5, 7, 4}, nil)
	tallies(t, "P7.7", c, 2, 0, 2, 3, 0)
}

// TestThereAndBack leads one key from clean to held and back, round after round: it stands once at all times.
func TestThereAndBack(t *testing.T) {
	c := filled(2, []int{1, 2}, nil)
	for range 3 {
		c.Hold(1, "held")
		rows(t, "P7.1", c, []int{2}, []int{1})
		c.Settle()
		rows(t, "P7.1", c, []int{1, 2}, nil)
		gets(t, "P7.7", c, 1, "held", true)
		c.Put(1, "clean")
		rows(t, "P7.1", c, []int{1, 2}, nil)
		gets(t, "P7.5", c, 1, "clean", true)
		gets(t, "P7.4", c, 2, "put2", true)
	}
	tallies(t, "P7.9", c, 9, 0, 0, 2, 0)
}

func TestGoneComesAgain(t *testing.T) {
	c := filled(1, []int{1, 2}, nil)
	gets(t, "P7.3", c, 1, "", false)
	c.Put(1, "again")
	rows(t, "P7.5", c, []int{1}, nil)
	gets(t, "P7.5", c, 1, "again", true)
	c.Hold(2, "held")
	rows(t, "P7.6", c, []int{1}, []int{2})
	tallies(t, "P7.3", c, 1, 1, 2, 1, 1)
}
