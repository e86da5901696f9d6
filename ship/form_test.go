package ship_test

import (
	"bytes"
	"fmt"
	"slices"
	"testing"

	"ledger/api"
	"ledger/disk"
	"ledger/ledger"
	"ledger/ship"
)

// judge asks the three calls that take a stream whether it is right by its form.
type judge struct {
	*testing.T
	promise string
	d       *disk.Disk // too small for what needs a page, and blank
	other   *rig       // a ledger that nothing can follow: no stream here has its width
}

func newJudge(t *testing.T, promise string) *judge {
	t.Helper()
	return &judge{t, promise, blank(t, 3), begun(t, promise, 3, 29, 1)}
}

// asks asks that a stream is refused by all as no stream, or by none.
func (j *judge) asks(name string, stream []byte, right bool) {
	j.Helper()
	said, heard := hear(stream)
	if heard != right {
		j.Fatalf("%s: %s: the plain reading tells %t", j.promise, name, heard)
	}
	promise := j.promise + ": " + name
	if !right {
		peekIs(j.T, promise, stream, ship.Head{}, api.ErrStream)
		importIs(j.T, promise, j.d, 1, stream, -1, api.ErrStream)
		j.other.promise = promise
		j.other.followIs(stream, api.ErrStream)
		return
	}
	peekIs(j.T, promise, stream, said.head(), api.OK)
	at, why := said.lowestWrong(0), api.ErrMismatch
	if at == -1 {
		why = api.ErrFull
	}
	if need := said.need(); why == api.ErrMismatch || need > 3 {
		importIs(j.T, promise, j.d, 1, stream, at, why)
	} else {
		imported(j.T, promise, 3, 1, stream)
	}
	j.other.promise = promise
	j.other.followIs(stream, api.ErrBase)
}

// someSagas tells streams that are right by their form, whose versions hold.
func someSagas() map[string]saga {
	k, q := entries{keyK: "a"}, entries{keyK: "a", keyQ: "bc"}
	return map[string]saga{
		"version 0 alone":       tell(4, 0, entries{}),
		"from version 0 on":     tell(4, 0, entries{}, k, q, k),
		"an empty map":          tell(32, 7, entries{}),
		"a map":                 tell(32, 7, q),
		"versions":              tell(4, 300, q, q, entries{keyQ: "bc"}, entries{}, k),
		"a batch as it is":      tell(1, 1, k).then(raw(put(keyQ, "x"), del(keyM), put(keyK, "a")), entries{keyK: "a", keyQ: "x"}.root(1)),
		"the highest version":   tell(2, 1<<30, k),
		"up to the highest one": tell(2, 1<<30-2, k, q, k),
	}
}

// P19.2, P19.4: streams that are right by their form are taken.
func TestRightStreams(t *testing.T) {
	t.Parallel()
	j := newJudge(t, "P19.2")
	for name, s := range someSagas() {
		j.asks(name, s.stream(), true)
	}
}

// P19.2: streams that are cut anywhere, with the sum that they happen to have and with a right one.
func TestCutStreams(t *testing.T) {
	t.Parallel()
	j := newJudge(t, "P19.2")
	j.asks("no bytes", nil, false)
	j.asks("no bytes", []byte{}, false)
	for name, s := range someSagas() {
		whole, body := s.stream(), s.body()
		for n := range whole {
			j.asks(fmt.Sprintf("%s, cut behind %d bytes", name, n), whole[:n], false)
			j.asks(fmt.Sprintf("%s, cut ahead of %d bytes", name, n+1), whole[n+1:], false)
		}
		for n := range body {
			j.asks(fmt.Sprintf("%s, cut behind %d bytes and sealed", name, n), sealed(body[:n]), false)
		}
	}
}

// P19.2: streams with more bytes.
func TestLongerStreams(t *testing.T) {
	t.Parallel()
	j := newJudge(t, "P19.2")
	for name, s := range someSagas() {
		whole, body := s.stream(), s.body()
		step := slices.Concat([]byte{2, 0, 0, 0}, make([]byte, 32))
		for _, more := range [][]byte{{0}, {1}, {2, 0}, step, make([]byte, 300), whole, body} {
			j.asks(name+", with more behind it", slices.Concat(whole, more), false)
			j.asks(name+", with more behind it, sealed", sealed(slices.Concat(whole, more)), false)
			j.asks(name+", with more ahead of the sum", sealed(slices.Concat(body, more)), false)
			j.asks(name+", with more ahead of it", slices.Concat(more, whole), false)
		}
	}
}

// P19.2: each byte changed, under the old sum and under a right one.
func TestChangedBytes(t *testing.T) {
	for name, s := range someSagas() {
		t.Run(name, func(t *testing.T) {
			t.Parallel()
			j := newJudge(t, "P19.2")
			whole := s.stream()
			for i := range whole {
				for _, turn := range []byte{1, 2, 4, 32, 128, 255} {
					other := bytes.Clone(whole)
					other[i] ^= turn
					j.asks(fmt.Sprintf("byte %d turned by %d", i, turn), other, false)
					if body := other[:len(other)-4]; i < len(body) {
						_, right := hear(sealed(body))
						j.asks(fmt.Sprintf("byte %d turned by %d, sealed", i, turn), sealed(body), right)
					}
				}
			}
		})
	}
}

// form is a stream with what its form is.
type form struct {
	name  string
	right bool
	s     saga
}

// with tells a saga of which something was changed.
func (s saga) with(change func(s *saga)) saga {
	s = s.twin()
	change(&s)
	return s
}

// P19.2: the letters, the width, the numbers of the versions.
func TestFronts(t *testing.T) {
	t.Parallel()
	k := entries{keyK: "a"}
	two := tell(4, 5, k, entries{})
	forms := []form{
		{"other letters", false, two.with(func(s *saga) { s.letters = "LDG1" })},
		{"small letters", false, two.with(func(s *saga) { s.letters = "ldgs" })},
		{"letters turned round", false, two.with(func(s *saga) { s.letters = "SGDL" })},
		{"width 0", false, two.with(func(s *saga) { s.width, s.sum, s.steps[0].sum = 0, api.Digest{}, api.Digest{} })},
		{"width 1", true, tell(1, 5, k, entries{})},
		{"width 32", true, tell(32, 5, k, entries{})},
		{"width 33", false, tell(32, 5, k, entries{}).with(func(s *saga) { s.width = 33 })},
		{"width 255", false, tell(32, 5, k, entries{}).with(func(s *saga) { s.width = 255 })},
		{"0 to 0", true, tell(4, 0, entries{})},
		{"0 to 1", true, tell(4, 0, entries{}, k)},
		{"1 to 0", false, two.with(func(s *saga) { s.from, s.to, s.steps = 1, 0, nil })},
		{"1 to 1", true, tell(4, 1, k)},
		{"5 to 4", false, tell(4, 5, k).with(func(s *saga) { s.to = 4 })},
		{"5 to 4, with a step", false, two.with(func(s *saga) { s.to = 4 })},
		{"5 to 5, with a step", false, two.with(func(s *saga) { s.to = 5 })},
		{"5 to 7, with a step", false, two.with(func(s *saga) { s.to = 7 })},
		{"5 to 6 without a step", false, tell(4, 5, k).with(func(s *saga) { s.to = 6 })},
		{"5 to 0", false, two.with(func(s *saga) { s.to = 0 })},
		{"5 to the highest without steps", false, tell(4, 5, k).with(func(s *saga) { s.to = 1 << 30 })},
		{"0 to the highest without steps", false, tell(4, 0, entries{}).with(func(s *saga) { s.to = 1 << 30 })},
		{"0 to 2^32 - 1 without steps", false, tell(4, 0, entries{}).with(func(s *saga) { s.to = 1<<32 - 1 })},
		{"the highest", true, tell(4, 1<<30, k)},
		{"the highest and one more", false, tell(4, 1<<30, k, k)},
		{"up to the highest", true, tell(4, 1<<30-1, k, k)},
		{"above the highest", false, tell(4, 1<<30+1, k)},
		{"2^31", false, tell(4, 1<<31, k)},
		{"2^32 - 1", false, tell(4, 1<<32-1, k)},
	}
	j := newJudge(t, "P19.2")
	for _, f := range forms {
		j.asks(f.name, f.s.stream(), f.right)
	}
}

// lined tells a stream of version 9 with these keys, each with this value, whatever order they have.
func lined(val string, keys ...api.Key) saga {
	s := tell(4, 9, entries{})
	s.keys = len(keys)
	for _, k := range keys {
		s.base = append(s.base, line{k, len(val), val})
	}
	return s
}

// many tells unlike keys, rising.
func many(n int) (keys []api.Key) {
	for i := range n {
		keys = append(keys, api.Key{byte(i >> 8), byte(i), byte(i * 7)})
	}
	return keys
}

// P19.2: the map of the first version: how many keys, in which order, with which values. (That these maps have other roots than is said is not asked here.)
func TestFirstMaps(t *testing.T) {
	t.Parallel()
	a, b, c := keyOf("0"), keyOf("01"), keyOf("1")
	last := flipped(a, 255)
	long := func(n int) saga { return lined(text(3, n), a, b, c) }
	one := lined("v", a, b, c)
	forms := []form{
		{"no keys", true, lined("")},
		{"one key", true, lined("v", a)},
		{"two keys, apart in the last bit alone", true, lined("v", a, last)},
		{"two keys, apart in the last bit alone, falling", false, lined("v", last, a)},
		{"the lowest and the highest key", true, lined("v", low, high)},
		{"the highest key first", false, lined("v", high, low)},
		{"a key twice", false, lined("v", a, a)},
		{"a key twice in the middle", false, lined("v", a, b, b, c)},
		{"a key twice at the end", false, lined("v", a, b, c, c)},
		{"a key once more at the end", false, lined("v", a, b, c, a)},
		{"keys falling", false, lined("v", c, b, a)},
		{"keys falling at the end", false, lined("v", a, c, b)},
		{"keys falling at the front", false, lined("v", b, a, c)},
		{"no value", true, lined("", a, b)},
		{"values of 127 bytes", true, long(127)},
		{"values of 128 bytes", true, long(128)},
		{"values of 129 bytes", false, long(129)},
		{"one value of 129 bytes", false, one.with(func(s *saga) { s.base[2] = line{c, 129, text(3, 129)} })},
		{"one value of 256 bytes", false, one.with(func(s *saga) { s.base[0] = line{a, 256, text(3, 256)} })},
		{"a value shorter than is told", false, one.with(func(s *saga) { s.base[2].length = 2 })},
		{"a value longer than is told", false, one.with(func(s *saga) { s.base[2].length = 0 })},
		{"a key more than is told", false, one.with(func(s *saga) { s.keys = 2 })},
		{"a key less than is told", false, one.with(func(s *saga) { s.keys = 4 })},
		{"65535 keys told", false, one.with(func(s *saga) { s.keys = 65535 })},
		{"4095 keys", true, lined("v", many(4095)...)},
		{"4096 keys", true, lined("v", many(4096)...)},
		{"4097 keys", false, lined("v", many(4097)...)},
		{"no key at version 0", true, lined("").with(func(s *saga) { s.from, s.to = 0, 0 })},
		{"a key at version 0", false, lined("v", a).with(func(s *saga) { s.from, s.to = 0, 0 })},
		{"a key at version 1", true, lined("v", a).with(func(s *saga) { s.from, s.to = 1, 1 })},
	}
	j := newJudge(t, "P19.2")
	for _, f := range forms {
		j.asks(f.name, f.s.stream(), f.right)
	}
}

// P19.2: the batches: those that Parse takes, and those that it refuses, at each place.
func TestBatches(t *testing.T) {
	t.Parallel()
	var full []api.Change
	for _, k := range many(65) {
		full = append(full, put(k, "v"))
	}
	most := raw(full[:64]...)
	k := entries{keyK: "a"}
	batches := []struct {
		name  string
		right bool
		raw   []byte
	}{
		{"an empty batch", true, raw()},
		{"one put", true, raw(put(keyK, "b"))},
		{"keys falling", true, raw(put(keyQ, "b"), put(keyK, ""))},
		{"nothing takes effect", true, raw(put(keyK, "a"), del(keyQ))},
		{"64 changes", true, most},
		{"a value of 128 bytes", true, raw(put(keyK, text(1, 128)))},
		{"no bytes", false, nil},
		{"one byte", false, []byte{0}},
		{"a byte too many", false, []byte{0, 0, 0}},
		{"65 changes", false, slices.Concat([]byte{65, 0}, most[2:], raw(full[64])[2:])},
		{"a value of 129 bytes", false, slices.Concat([]byte{1, 0, 1}, keyK[:], []byte{129, 0}, make([]byte, 129))},
		{"a key twice", false, slices.Concat([]byte{2, 0, 2}, keyK[:], []byte{2}, keyK[:])},
		{"neither put nor delete", false, slices.Concat([]byte{1, 0, 3}, keyK[:])},
		{"a change is missing", false, slices.Concat([]byte{2, 0, 2}, keyK[:])},
		{"a key too short", false, slices.Concat([]byte{1, 0, 2}, keyK[:31])},
	}
	j := newJudge(t, "P19.2")
	for _, b := range batches {
		at := func(place int) []byte {
			s := tell(4, 9, k)
			for i := range 3 {
				one, next := raw(), k.root(4)
				if i == place {
					one = b.raw
				}
				s = s.then(one, next)
			}
			return s.stream()
		}
		for place := range 3 {
			j.asks(fmt.Sprintf("%s at step %d", b.name, place), at(place), b.right)
		}
		if len(b.raw) > 0 {
			s := tell(4, 9, k).then(b.raw, k.root(4))
			s.steps[0].length--
			j.asks(b.name+", told too short", s.stream(), false)
			s.steps[0].length += 2
			j.asks(b.name+", told too long", s.stream(), false)
			s.steps[0].length = 65535
			j.asks(b.name+", told far too long", s.stream(), false)
		}
	}
}

// P19.2: no digest has bytes beyond the width; within it they may be any.
func TestDigestsBeyondTheWidth(t *testing.T) {
	t.Parallel()
	j := newJudge(t, "P19.2")
	for _, width := range []int{1, 4, 31, 32} {
		s := tell(width, 3, entries{keyK: "a"}, entries{}, entries{keyQ: "b"})
		for i := range 32 {
			for _, turn := range []byte{1, 128} {
				name := fmt.Sprintf("width %d, byte %d turned by %d", width, i, turn)
				j.asks(name+" at the first version", s.with(func(s *saga) { s.sum[i] ^= turn }).stream(), i < width)
				j.asks(name+" in the middle", s.with(func(s *saga) { s.steps[0].sum[i] ^= turn }).stream(), i < width)
				j.asks(name+" at the last version", s.with(func(s *saga) { s.steps[1].sum[i] ^= turn }).stream(), i < width)
			}
		}
	}
}

// P19.2: whether the digests are those of the maps is not asked by a Peek.
func TestPeekAsksNoDigest(t *testing.T) {
	s := tell(4, 3, entries{keyK: "a"}, entries{})
	s.sum, s.steps[0].sum = api.Digest{1, 2, 3, 4}, api.Digest{}
	peekIs(t, "P19.4", s.stream(), ship.Head{Width: 4, From: 3, To: 4, Sum: api.Digest{1, 2, 3, 4}}, api.OK)
}

// P19.2, R1: whatever bytes are handed in, each call ends, and takes just what is right.
func TestDrawnBytes(t *testing.T) {
	t.Parallel()
	rnd := drawn(191)
	j := newJudge(t, "P19.2, R1")
	var sagas []saga
	for _, s := range someSagas() {
		sagas = append(sagas, s)
	}
	slices.SortFunc(sagas, func(a, b saga) int { return bytes.Compare(a.stream(), b.stream()) })
	for range 3000 {
		body := sagas[rnd.Intn(len(sagas))].body()
		for range rnd.Intn(4) {
			i, n := rnd.Intn(len(body)), rnd.Intn(5)
			end := min(len(body), i+n)
			switch rnd.Intn(4) {
			case 0:
				body = slices.Delete(body, i, end)
			case 1:
				body = slices.Insert(body, i, []byte(text(rnd.Intn(99), n))...)
			case 2:
				copy(body[i:], text(rnd.Intn(99), n))
			default:
				clear(body[i:end])
			}
			if len(body) == 0 {
				body = []byte{0}
			}
		}
		_, right := hear(sealed(body))
		j.asks("drawn", sealed(body), right)
	}
	for n := range 200 {
		j.asks("zeros", make([]byte, n), false)
		j.asks("other bytes", []byte(text(n, n)), false)
	}
}

// P19.7, P19.10: a stream that is none is refused by a ledger that could follow, and on a disk with room for it.
func TestNoStreamForWhoCouldTakeIt(t *testing.T) {
	r := begun(t, "P19.10", 40, 4, 4).history()
	s := r.tells(2, 8)
	r.promise = "P19.10: the sum is wrong"
	for i := range 4 {
		stream := s.stream()
		stream[len(stream)-1-i] ^= 1
		r.followIs(stream, api.ErrStream)
		importIs(t, "P19.7", blank(t, 60), 4, stream, -1, api.ErrStream)
	}
	if _, err := ledger.Open(r.d, 1); err != nil {
		t.Error(err)
	}
}
