package cache_test

import (
	"testing"

	"ledger/cache"
)

// TestExamples goes through rows 1 to 4 of the chapter's examples, on one cache.
func TestExamples(t *testing.T) {
	c := cache.New[int, string](2)
	gets(t, "P7.4: row 1", c, 1, "", false)
	c.Put(1, "a")
	c.Put(2, "b")
	rows(t, "P7.5: row 1", c, []int{2, 1}, nil)
	gets(t, "P7.4: row 1", c, 1, "a", true)
	rows(t, "P7.4: row 1", c, []int{1, 2}, nil)
	c.Put(3, "c")
	rows(t, "P7.3: row 1", c, []int{3, 1}, nil)
	gets(t, "P7.4: row 1", c, 2, "", false)
	tallies(t, "P7.9: row 1", c, 1, 2, 1, 2, 0)

	c.Hold(1, "A")
	rows(t, "P7.6: row 2", c, []int{3}, []int{1})
	c.Hold(9, "z")
	c.Put(1, "B")
	rows(t, "P7.5: row 2", c, []int{3}, []int{1, 9})
	gets(t, "P7.5: row 2", c, 1, "B", true)
	c.Hold(1, "C")
	rows(t, "P7.6: row 2", c, []int{3}, []int{1, 9})

	c.Put(4, "d")
	c.Put(5, "e")
	rows(t, "P7.3: row 3", c, []int{5, 4}, []int{1, 9})
	tallies(t, "P7.3: row 3", c, 2, 2, 2, 2, 2)
	c.Settle()
	rows(t, "P7.7: row 3", c, []int{9, 1}, nil)
	tallies(t, "P7.7: row 3", c, 2, 2, 4, 2, 0)

	c.Hold(6, "")
	c.Hold(7, "")
	c.Hold(8, "")
	c.Release(1)
	rows(t, "P7.8: row 4", c, []int{9, 1}, []int{6})
	gets(t, "P7.8: row 4", c, 7, "", false)
	c.Release(5)
	rows(t, "P7.8: row 4", c, []int{9, 1}, []int{6})
	c.Release(-3)
	rows(t, "P7.8: row 4", c, []int{9, 1}, nil)
	gets(t, "P7.7: row 4", c, 1, "C", true)
	gets(t, "P7.7: row 4", c, 9, "z", true)
}

func TestExampleOfNoRoom(t *testing.T) {
	c := cache.New[int, int](0)
	c.Put(1, 1)
	rows(t, "P7.5: row 5", c, nil, nil)
	tallies(t, "P7.5: row 5", c, 0, 0, 1, 0, 0)
	c.Hold(1, 1)
	gets(t, "P7.4: row 5", c, 1, 1, true)
	c.Settle()
	rows(t, "P7.7: row 5", c, nil, nil)
	tallies(t, "P7.7: row 5", c, 1, 0, 2, 0, 0)
}

func TestExampleOfRoomForOne(t *testing.T) {
	c := filled(1, nil, []int{1, 2, 3})
	c.Settle()
	rows(t, "P7.7: row 6", c, []int{3}, nil)
	tallies(t, "P7.7: row 6", c, 0, 0, 2, 1, 0)
}
