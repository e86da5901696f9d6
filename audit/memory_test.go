package audit_test

import (
	"bytes"
	"slices"
	"testing"

	"ledger/api"
	"ledger/audit"
)

// R5: no call changes the image or the room behind it, and each answer is new memory: whatever is written into one, the next one is right.
func TestMemory(t *testing.T) {
	clean := laid(t, 40, 4, 0, story()...)
	spoilt := slices.Clone(clean)
	spoilt[256*9+8] ^= 1
	spoilt[256*3+8] ^= 1
	forgery := forged(t, clean)
	forgery.record(14, func(r *api.Record) { r.Sum[0] ^= 1 })
	for _, image := range [][]byte{clean, spoilt, forgery.image, clean[:700], make([]byte, 1024), nil} {
		room := slices.Concat(image, bytes.Repeat([]byte{7}, 512))
		given := room[:len(image)]
		ask(given)
		if !bytes.Equal(room[:len(image)], image) || !bytes.Equal(room[len(image):], bytes.Repeat([]byte{7}, 512)) {
			t.Error("R5: the image or the room behind it is another one")
		}
	}
	for range 3 {
		r := asReport(t, spoilt)
		if !slices.Equal(r.Findings, []api.Finding{find(3, api.ErrSum), find(9, api.ErrSum)}) {
			t.Errorf("R5: the findings are %v", r.Findings)
		}
		scribble(r.Findings)
		used, e := audit.Pages(clean, 1)
		other, f := audit.Pages(clean, 1)
		if e != api.OK || f != api.OK || !slices.Equal(used, usedPages()[1]) {
			t.Errorf("R5: Pages = %v, %v", used, e)
		}
		scribble(used)
		if !slices.Equal(other, usedPages()[1]) {
			t.Error("R5: two answers share memory")
		}
		rest, e := audit.Garbage(clean, 2)
		if e != api.OK || !slices.Equal(rest, []int{2, 4, 6, 7}) {
			t.Errorf("R5: Garbage = %v, %v", rest, e)
		}
		scribble(rest)
	}
}

// scribble fills a list, its spare room too.
func scribble[T any](list []T) {
	clear(list[:cap(list)])
	_ = append(list, make([]T, 9)...)
}

// ask makes all calls.
func ask(image []byte) {
	audit.Check(image)
	for _, n := range []int{lowest, -2, -1, 0, 1, 2, 3, 7, 8, 21, 22, 4095, 4096, highest} {
		audit.Pages(image, n)
		audit.Owner(image, n)
		audit.Garbage(image, n)
	}
}

// R6: a call answers the same each time, though a map is gone through in another order: many pages in one version.
func TestSameEachTime(t *testing.T) {
	var many []api.Change
	for i := range 40 {
		many = append(many, put(keyOf(text(i, 9)+"1"), ""), put(api.Key{byte(6 * i), 1}, "x"))
	}
	seen := map[api.Key]bool{}
	many = slices.DeleteFunc(many, func(c api.Change) bool {
		was := seen[c.Key]
		seen[c.Key] = true
		return was
	})
	image := laid(t, 300, 4, 0, many, list(many[7], put(many[3].Key, "other")))
	used, e := audit.Pages(image, 1)
	if e != api.OK || !slices.IsSorted(used) || len(used) < 80 {
		t.Errorf("R6: Pages = %v, %v", used, e)
	}
	rest, e := audit.Garbage(image, 2)
	if e != api.OK || !slices.IsSorted(rest) {
		t.Errorf("R6: Garbage = %v, %v", rest, e)
	}
	for range 10 {
		pages(t, "R6", image, 1, api.OK, used...)
		garbage(t, "R6", image, 2, api.OK, rest...)
	}
}
