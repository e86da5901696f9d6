package batch_test

import (
	"bytes"
	"math/rand"
	"slices"
	"testing"

	"ledger/api"
	"ledger/batch"
)

// rising sorts a list by its keys, in other words than the program.
func rising(cs []api.Change) []api.Change {
	cs = slices.Clone(cs)
	slices.SortFunc(cs, func(x, y api.Change) int { return asNumber(x.Key).Cmp(asNumber(y.Key)) })
	return cs
}

func TestNormalOfExamples(t *testing.T) {
	cs, e := batch.Normal([]api.Change{put(keyB, "x"), del(keyC)})
	if want := []api.Change{del(keyC), put(keyB, "x")}; e != api.OK || !same(cs, want) {
		t.Errorf("P3.9: %v, %d, want %v", cs, e, want)
	}
	cs, e = batch.Normal([]api.Change{put(keyB, "x"), del(keyB)})
	if e != api.ErrDup || cs != nil {
		t.Errorf("P3.9: %v, %d, want nil, ErrDup", cs, e)
	}
}

func TestNormalSorts(t *testing.T) {
	r := rand.New(rand.NewSource(9))
	for n := range 130 {
		cs := randomList(r, n)
		want := told(rising(cs))
		if got, e := batch.Normal(cs); e != api.OK || !same(got, want) {
			t.Errorf("P3.9: Normal(%v) = %v, %d, want %v", cs, got, e, want)
		}
		if got, e := batch.Normal(rising(cs)); e != api.OK || !same(got, want) {
			t.Errorf("P3.9: Normal of a rising list = %v, %d, want %v", got, e, want)
		}
	}
	full := deletes(api.MaxList)
	shuffled := slices.Clone(full)
	r.Shuffle(len(shuffled), func(i, j int) { shuffled[i], shuffled[j] = shuffled[j], shuffled[i] })
	if got, e := batch.Normal(shuffled); e != api.OK || !same(got, full) {
		t.Errorf("P3.9: of %d shuffled changes: %d changes, %d", len(full), len(got), e)
	}
}

// Keys that differ in one bit alone are sorted by it.
func TestNormalSortsByEachBit(t *testing.T) {
	r := rand.New(rand.NewSource(10))
	for bit := range 256 {
		low := behind(r, keyA, 0)
		if batch.Bit(low, bit) == 1 {
			low = flip(low, bit)
		}
		high := flip(low, bit)
		if got, e := batch.Normal([]api.Change{put(high, "h"), put(low, "l")}); e != api.OK || !same(got, []api.Change{put(low, "l"), put(high, "h")}) {
			t.Errorf("P3.9: keys that differ in bit %d: %v, %d", bit, got, e)
		}
	}
}

func TestNormalRefusesWhatIsNotRight(t *testing.T) {
	for _, c := range wrongLists(api.MaxList) {
		if cs, e := batch.Normal(c.cs); e != c.want || cs != nil {
			t.Errorf("P3.1, P3.9: %s: Normal = %d changes, %d, want %d", c.name, len(cs), e, c.want)
		}
	}
	for _, cs := range slices.Concat(rightLists(api.MaxList), rightLists(api.MaxOps+1)) {
		if got, e := batch.Normal(cs); e != api.OK || !same(got, told(rising(cs))) {
			t.Errorf("P3.1, P3.9: of %d changes: Normal = %d changes, %d", len(cs), len(got), e)
		}
	}
}

func TestNormalFindsEachPair(t *testing.T) {
	full := deletes(40)
	for j := range full {
		for i := range j {
			if cs, e := batch.Normal(with(full, j, put(full[i].Key, "x"))); e != api.ErrDup || cs != nil {
				t.Errorf("P3.1: places %d and %d: Normal = %v, %d", i, j, cs, e)
			}
		}
	}
}

func TestNormalEmptiesDeletes(t *testing.T) {
	cs := []api.Change{{Key: keyB, Del: true, Val: []byte("y")}, put(keyC, "y"), {Key: keyA, Del: true, Val: []byte(long(500))}}
	got, e := batch.Normal(cs)
	if want := []api.Change{del(keyA), put(keyC, "y"), del(keyB)}; e != api.OK || !same(got, want) {
		t.Errorf("P3.9: %v, %d, want %v", got, e, want)
	}
	if len(cs[0].Val) != 1 || len(cs[2].Val) != 500 {
		t.Errorf("P3.9: the list that was handed in is not as it was: %v", cs)
	}
}

func TestNormalAnswersNewMemory(t *testing.T) {
	r := rand.New(rand.NewSource(11))
	for n := range 20 {
		l := makeRoomy(randomList(r, n))
		checkAnswer(t, "P3.9, R5: Normal", []roomy{l}, func() []api.Change {
			cs, _ := batch.Normal(l.list)
			return cs
		})
	}
}

// A list that is refused stays as it was too.
func TestRefusedListsStay(t *testing.T) {
	for _, c := range wrongLists(api.MaxOps) {
		l, other := makeRoomy(c.cs), makeRoomy(deletes(3))
		batch.Build(l.list...)
		batch.Normal(l.list)
		batch.Fold(l.list, other.list)
		batch.Fold(other.list, l.list)
		if l.touched() || other.touched() {
			t.Errorf("R5: %s: the list was changed", c.name)
		}
	}
}

func TestFoldOfExamples(t *testing.T) {
	cs, e := batch.Fold([]api.Change{put(keyB, "x"), put(keyC, "y")}, []api.Change{del(keyB)})
	if want := []api.Change{put(keyC, "y"), del(keyB)}; e != api.OK || !same(cs, want) {
		t.Errorf("P3.10: %v, %d, want %v", cs, e, want)
	}
}

func TestFoldWhereBothHaveAKey(t *testing.T) {
	spoilt := api.Change{Key: keyB, Del: true, Val: []byte(long(129))}
	for _, c := range []struct{ first, then, want api.Change }{
		{put(keyB, "x"), put(keyB, "y"), put(keyB, "y")},
		{put(keyB, "x"), put(keyB, ""), put(keyB, "")},
		{put(keyB, "x"), put(keyB, "x"), put(keyB, "x")},
		{put(keyB, "x"), del(keyB), del(keyB)},
		{del(keyB), put(keyB, "y"), put(keyB, "y")},
		{del(keyB), put(keyB, ""), put(keyB, "")},
		{del(keyB), del(keyB), del(keyB)},
		{put(keyB, "x"), spoilt, del(keyB)},
		{spoilt, put(keyB, "y"), put(keyB, "y")},
	} {
		if got, e := batch.Fold([]api.Change{c.first}, []api.Change{c.then}); e != api.OK || !same(got, []api.Change{c.want}) {
			t.Errorf("P3.10: Fold(%v, %v) = %v, %d, want %v", c.first, c.then, got, e, c.want)
		}
		first := []api.Change{put(keyC, "c"), c.first, del(numbered(3))}
		then := []api.Change{c.then, put(numbered(1), "1"), del(keyA)}
		want := []api.Change{del(keyA), put(keyC, "c"), put(numbered(1), "1"), del(numbered(3)), c.want}
		if got, e := batch.Fold(first, then); e != api.OK || !same(got, want) {
			t.Errorf("P3.10: Fold(%v, %v) = %v, %d, want %v", first, then, got, e, want)
		}
	}
}

func TestFoldWithEmptyLists(t *testing.T) {
	cs := []api.Change{put(keyB, "x"), {Key: keyC, Del: true, Val: []byte("y")}}
	want := []api.Change{del(keyC), put(keyB, "x")}
	for _, none := range [][]api.Change{nil, {}} {
		if got, e := batch.Fold(cs, none); e != api.OK || !same(got, want) {
			t.Errorf("P3.10: Fold(%v, none) = %v, %d", cs, got, e)
		}
		if got, e := batch.Fold(none, cs); e != api.OK || !same(got, want) {
			t.Errorf("P3.10: Fold(none, %v) = %v, %d", cs, got, e)
		}
		if got, e := batch.Fold(none, none); e != api.OK || len(got) != 0 {
			t.Errorf("P3.10: Fold(none, none) = %v, %d", got, e)
		}
	}
}

// pair tells two lists that share some keys; together they name at most MaxOps.
func pair(r *rand.Rand) (first, then []api.Change) {
	for _, c := range randomList(r, r.Intn(api.MaxOps+1)) {
		other := randomList(r, 1)[0]
		other.Key = c.Key
		switch r.Intn(3) {
		case 0:
			first = append(first, c)
		case 1:
			then = append(then, c)
		case 2:
			first, then = append(first, c), append(then, other)
		}
	}
	shuffle := func(cs []api.Change) { r.Shuffle(len(cs), func(i, j int) { cs[i], cs[j] = cs[j], cs[i] }) }
	shuffle(first)
	shuffle(then)
	return first, then
}

// apply changes a map by a list.
func apply(m map[api.Key]string, cs []api.Change) map[api.Key]string {
	next := map[api.Key]string{}
	for k, v := range m {
		next[k] = v
	}
	for _, c := range cs {
		if c.Del {
			delete(next, c.Key)
		} else {
			next[c.Key] = string(c.Val)
		}
	}
	return next
}

func TestFoldDoesWhatBothDo(t *testing.T) {
	r := rand.New(rand.NewSource(12))
	for range 600 {
		first, then := pair(r)
		last := map[api.Key]api.Change{}
		ahead := map[api.Key]string{numbered(1): "stays"}
		for _, c := range slices.Concat(first, then) {
			last[c.Key] = c
			if r.Intn(2) == 0 {
				ahead[c.Key] = "was there"
			}
		}
		var want []api.Change
		for _, c := range last {
			want = append(want, c)
		}
		got, e := batch.Fold(first, then)
		if e != api.OK || !same(got, told(rising(want))) {
			t.Fatalf("P3.10: Fold(%v, %v) = %v, %d", first, then, got, e)
		}
		both, once := apply(apply(ahead, first), then), apply(ahead, got)
		if len(both) != len(once) {
			t.Fatalf("P3.10: Fold(%v, %v) leaves another map", first, then)
		}
		for k, v := range both {
			if w, ok := once[k]; !ok || v != w {
				t.Fatalf("P3.10: Fold(%v, %v) leaves another map at %v", first, then, k)
			}
		}
	}
}

func TestFoldOfManyKeys(t *testing.T) {
	many := deletes(api.MaxList)
	backwards := slices.Clone(many[:64])
	slices.Reverse(backwards)
	for _, c := range []struct {
		name        string
		first, then []api.Change
		want        api.Errno
	}{
		{"64 and none", many[:64], nil, api.OK},
		{"none and 64", nil, many[:64], api.OK},
		{"65 and none", many[:65], nil, api.ErrMany},
		{"none and 65", nil, many[:65], api.ErrMany},
		{"64 and one more", many[:64], many[64:65], api.ErrMany},
		{"one and 64 more", many[:1], many[1:65], api.ErrMany},
		{"64 and one of them", many[:64], many[63:64], api.OK},
		{"one of them and 64", many[:1], many[:64], api.OK},
		{"64 and the same 64", many[:64], backwards, api.OK},
		{"32 and 32", many[:32], many[32:64], api.OK},
		{"32 and 33", many[:32], many[32:65], api.ErrMany},
		{"40 and 40, 16 of them shared", many[:40], many[24:64], api.OK},
		{"40 and 41, 16 of them shared", many[:40], many[24:65], api.ErrMany},
		{"4096 and none", many, nil, api.ErrMany},
		{"none and 4096", nil, many, api.ErrMany},
		{"4096 and the same", many, many, api.ErrMany},
	} {
		got, e := batch.Fold(c.first, c.then)
		if e != c.want || e != api.OK && got != nil || e == api.OK && !same(got, many[:64]) {
			t.Errorf("P3.10: %s: %d changes, %d, want %d", c.name, len(got), e, c.want)
		}
	}
}

func TestFoldTellsTheFirstError(t *testing.T) {
	right := [][]api.Change{nil, deletes(1), deletes(65), deletes(api.MaxList)}
	wrong := wrongLists(api.MaxList)
	for _, c := range wrong {
		for _, other := range right {
			if cs, e := batch.Fold(c.cs, other); e != c.want || cs != nil {
				t.Errorf("P3.10: first: %s, then %d right ones: %d, want %d", c.name, len(other), e, c.want)
			}
			if cs, e := batch.Fold(other, c.cs); e != c.want || cs != nil {
				t.Errorf("P3.10: first %d right ones, then: %s: %d, want %d", len(other), c.name, e, c.want)
			}
		}
		for _, d := range wrong {
			if cs, e := batch.Fold(c.cs, d.cs); e != c.want || cs != nil {
				t.Errorf("P3.10: first: %s, then: %s: %d, want %d", c.name, d.name, e, c.want)
			}
		}
	}
}

func TestFoldAnswersNewMemory(t *testing.T) {
	r := rand.New(rand.NewSource(13))
	for range 40 {
		first, then := pair(r)
		f, n := makeRoomy(first), makeRoomy(then)
		checkAnswer(t, "P3.10, R5: Fold", []roomy{f, n}, func() []api.Change {
			cs, _ := batch.Fold(f.list, n.list)
			return cs
		})
	}
	l := makeRoomy([]api.Change{put(keyB, "x"), put(keyC, "y")})
	got, e := batch.Fold(l.list, l.list)
	if want := []api.Change{put(keyC, "y"), put(keyB, "x")}; e != api.OK || !same(got, want) || l.touched() {
		t.Errorf("P3.10, R5: a list folded with itself: %v, %d", got, e)
	}
	scribble(got[0].Val)
	if !bytes.Equal(got[1].Val, []byte("x")) || l.touched() {
		t.Errorf("P3.10, R5: what Fold answers of one list twice shares memory")
	}
}
