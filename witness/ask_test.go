package witness_test

import (
	"bytes"
	"slices"
	"testing"

	"ledger/api"
	"ledger/witness"
)

// lent is memory that is handed in: it must come back as it was, with the room behind it, and is then written over, so that what is kept or handed on is seen.
type lent struct {
	wholes, were [][]byte
	lists        []func() bool
	spoil        []func()
}

// bytes lends one list.
func (l *lent) bytes(b []byte) []byte {
	if b == nil {
		return nil
	}
	whole := append(bytes.Clone(b), 201, 202, 203, 204, 205, 206, 207, 208, 209)
	l.wholes, l.were = append(l.wholes, whole), append(l.were, bytes.Clone(whole))
	return whole[:len(b)]
}

// raws lends a list of lists.
func (l *lent) raws(rs [][]byte) [][]byte {
	if rs == nil {
		return nil
	}
	whole := make([][]byte, 0, len(rs)+1)
	for _, r := range rs {
		whole = append(whole, l.bytes(r))
	}
	whole = append(whole, []byte{77})
	was := slices.Clone(whole)
	l.lists = append(l.lists, func() bool {
		return slices.EqualFunc(whole, was, func(a, b []byte) bool {
			return len(a) == len(b) && (a == nil) == (b == nil) && (len(a) == 0 || &a[0] == &b[0])
		})
	})
	l.spoil = append(l.spoil, func() { clear(whole) })
	return whole[:len(rs)]
}

// keys lends a list of keys.
func (l *lent) keys(ks []api.Key) []api.Key {
	if ks == nil {
		return nil
	}
	whole := append(slices.Clone(ks), keyM, keyZ)
	was := slices.Clone(whole)
	l.lists = append(l.lists, func() bool { return slices.Equal(whole, was) })
	l.spoil = append(l.spoil, func() { clear(whole) })
	return whole[:len(ks)]
}

// back tells whether all is as it was, and writes over it.
func (l *lent) back() bool {
	left := slices.EqualFunc(l.wholes, l.were, bytes.Equal)
	for _, is := range l.lists {
		left = is() && left
	}
	for _, whole := range l.wholes {
		scribble(whole)
	}
	for _, spoil := range l.spoil {
		spoil()
	}
	return left
}

// scribble writes over all bytes of b and of the room behind it.
func scribble(b []byte) {
	b = b[:cap(b)]
	for i := range b {
		b[i] ^= 0xFF
	}
}

// ask makes each call of the program, holds what it answers to the plain reading, and sees that what it was handed stays as it is and is not kept. The promise is the one under test: whatever fails is told under its name.
type ask struct {
	*testing.T
	promise string
	w       int
	root    api.Digest
}

// of asks under a map's root.
func of(t *testing.T, promise string, w int, m entries) ask { return ask{t, promise, w, m.root(w)} }

// at asks under another root.
func (a ask) at(root api.Digest) ask { return ask{a.T, a.promise, a.w, root} }

// settled sees to what was lent, and holds the refusals against one another.
func (a ask) settled(call string, l *lent, got, want api.Errno) {
	a.Helper()
	if !l.back() {
		a.Errorf("%s, R5: width %d: %s has changed what it was handed", a.promise, a.w, call)
	}
	if got != want {
		a.Errorf("%s: width %d: %s is answered %d (%v), want %d (%v)", a.promise, a.w, call, got, got, want, want)
	}
}

// sameRaw holds bytes against one another, nil beside a refusal.
func (a ask) sameRaw(call string, got, want []byte, e api.Errno) {
	a.Helper()
	if !bytes.Equal(got, want) || e != api.OK && got != nil {
		a.Errorf("%s: width %d: %s: %s, want %s", a.promise, a.w, call, some(got), some(want))
	}
}

func (a ask) verify(keys []api.Key, raw []byte) ([]api.Answer, api.Errno) {
	a.Helper()
	want, wrong := readVerify(a.w, a.root, keys, raw)
	var l lent
	got, e := witness.Verify(a.w, a.root, l.keys(keys), l.bytes(raw))
	a.settled("Verify", &l, e, wrong)
	if !slices.EqualFunc(got, want, sameAnswer) || e != api.OK && got != nil {
		a.Errorf("%s: width %d: Verify of %d keys: %s, want %s", a.promise, a.w, len(keys), some(got), some(want))
	}
	for i, x := range got {
		if !x.Found && x.Val != nil {
			a.Errorf("%s: width %d: key %d is not there and has a value", a.promise, a.w, i)
		}
	}
	return got, e
}

func (a ask) part(keys []api.Key, raw []byte, k api.Key) ([]byte, api.Errno) {
	a.Helper()
	want, wrong := readPart(a.w, keys, raw, k)
	var l lent
	got, e := witness.Part(a.w, l.keys(keys), l.bytes(raw), k)
	a.settled("Part", &l, e, wrong)
	a.sameRaw("Part", got, want, e)
	return got, e
}

func (a ask) gather(keys []api.Key, raws [][]byte) ([]byte, api.Errno) {
	a.Helper()
	want, wrong := readGather(a.w, a.root, keys, raws)
	var l lent
	got, e := witness.Gather(a.w, a.root, l.keys(keys), l.raws(raws))
	a.settled("Gather", &l, e, wrong)
	a.sameRaw("Gather", got, want, e)
	return got, e
}

func (a ask) step(raw, changes []byte) (api.Digest, api.Errno) {
	a.Helper()
	want, wrong := readStep(a.w, a.root, raw, changes)
	var l lent
	got, e := witness.Step(a.w, a.root, l.bytes(raw), l.bytes(changes))
	a.settled("Step", &l, e, wrong)
	if got != want {
		a.Errorf("%s: width %d: Step: %x, want %x", a.promise, a.w, got, want)
	}
	return got, e
}

func (a ask) renew(keys []api.Key, raw, rawAt, changes []byte) ([]byte, api.Errno) {
	a.Helper()
	want, wrong := readRenew(a.w, a.root, keys, raw, rawAt, changes)
	var l lent
	got, e := witness.Renew(a.w, a.root, l.keys(keys), l.bytes(raw), l.bytes(rawAt), l.bytes(changes))
	a.settled("Renew", &l, e, wrong)
	a.sameRaw("Renew", got, want, e)
	return got, e
}

func (a ask) clash(keys []api.Key, p1, p2 []byte) (one, two []byte, is bool) {
	a.Helper()
	want1, want2, wantIs := readClash(a.w, a.root, keys, p1, p2)
	var l lent
	one, two, is = witness.Clash(a.w, a.root, l.keys(keys), l.bytes(p1), l.bytes(p2))
	a.settled("Clash", &l, api.OK, api.OK)
	if is != wantIs || !bytes.Equal(one, want1) || !bytes.Equal(two, want2) || !is && (one != nil || two != nil) {
		a.Errorf("%s: width %d: Clash: %v, %v, %t, want %v, %v, %t", a.promise, a.w, one, two, is, want1, want2, wantIs)
	}
	if is && (bytes.Equal(one, two) || cutSum(a.w, one) != cutSum(a.w, two)) {
		a.Errorf("%s: width %d: Clash: %x and %x are not two unlike texts with one digest", a.promise, a.w, one, two)
	}
	return one, two, is
}

// is asks for a refusal that is written out.
func (a ask) is(call string, got, want api.Errno) {
	a.Helper()
	if got != want {
		a.Errorf("%s: width %d: %s: %d (%v), want %d (%v)", a.promise, a.w, call, got, got, want, want)
	}
}

// takes asks that a witness for some keys of a map is taken by every call, and what each makes of it.
func (a ask) takes(m entries, keys []api.Key, raw []byte) {
	a.Helper()
	as, e := a.verify(keys, raw)
	a.is("Verify", e, api.OK)
	for i, x := range as {
		if !sameAnswer(x, m.answer(keys[i])) {
			a.Errorf("%s: width %d: key %d of %d: %v, want %v", a.promise, a.w, i, len(keys), x, m.answer(keys[i]))
		}
	}
}

// refused asks that a witness is refused so by every call, wherever it stands beside one that holds for the same keys; Part knows no root.
func (a ask) refused(what string, keys []api.Key, raw, good []byte, why api.Errno) {
	a.Helper()
	_, e := a.verify(keys, raw)
	a.is("Verify, "+what, e, why)
	if len(keys) > 0 && why != api.ErrRoot {
		_, e = a.part(keys, raw, keys[0])
		a.is("Part, "+what, e, why)
		_, e = a.part(keys, raw, api.Key{1, 2, 3})
		a.is("Part of another key, "+what, e, why)
	}
	var cs []api.Change
	for i, k := range keys {
		if i%2 == 0 {
			cs = append(cs, put(k, "new"))
		} else {
			cs = append(cs, del(k))
		}
	}
	changes := batchOf(cs...)
	_, e = a.step(raw, changes)
	a.is("Step, "+what, e, why)
	_, e = a.renew(keys, raw, good, changes)
	a.is("Renew of it, "+what, e, why)
	_, e = a.renew(keys, good, raw, changes)
	a.is("Renew by it, "+what, e, why)
	if _, _, is := a.clash(keys, raw, good); is {
		a.Errorf("%s: width %d: Clash, %s, first", a.promise, a.w, what)
	}
	if _, _, is := a.clash(keys, good, raw); is {
		a.Errorf("%s: width %d: Clash, %s, second", a.promise, a.w, what)
	}
	if len(keys) == 1 {
		_, e = a.gather(keys, [][]byte{raw})
		a.is("Gather, "+what, e, why)
	}
}
