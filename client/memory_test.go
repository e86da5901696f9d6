package client_test

import (
	"bytes"
	"slices"
	"testing"

	"ledger/api"
	"ledger/client"
)

// spoil writes into a list and behind it, as far as its memory reaches.
func spoil(list []byte) {
	for i := range list[:cap(list)] {
		list[:cap(list)][i] ^= 255
	}
	_ = append(list, "spare"...)
}

// roomy tells the same bytes with others behind them, in the room that a caller may have there.
func roomy(raw []byte) []byte {
	return append(slices.Clone(raw), text(9, 70)...)[: len(raw) : len(raw)+70]
}

// whole tells bytes with the room behind them.
func whole(raw []byte) []byte { return raw[:cap(raw)] }

// args are the lists of one call, with room behind each.
type args struct {
	raws [][]byte
	cs   []api.Change
}

// ready tells lists of a call that all hold in this map.
func ready(m entries, w int) (a args) {
	for _, c := range []api.Change{put(keyM, "new"), {Key: keyC, Del: true, Val: []byte("says nothing")}, put(keyB, string(text(1, 128)))} {
		c.Val = roomy(c.Val)
		a.cs = append(a.cs, c)
		a.raws = append(a.raws, roomy(m.raw(w, c.Key)))
	}
	a.cs = append(a.cs, api.Change{Key: keyZ, Val: roomy(nil)})[:3]
	a.raws = append(a.raws, roomy(nil))[:3]
	return a
}

// spoil writes over all of it.
func (a args) spoil() {
	for i := range a.cs[:4] {
		spoil(a.cs[:4][i].Val)
		spoil(a.raws[:4][i])
		a.cs[:4][i].Key[3] ^= 255
		a.cs[:4][i].Del = !a.cs[:4][i].Del
	}
}

// sameArgs tells whether two are one, with the room behind each list.
func sameArgs(a, b args) bool {
	return slices.EqualFunc(a.cs[:4], b.cs[:4], func(x, y api.Change) bool {
		return x.Key == y.Key && x.Del == y.Del && len(x.Val) == len(y.Val) && bytes.Equal(whole(x.Val), whole(y.Val))
	}) && slices.EqualFunc(a.raws[:4], b.raws[:4], func(x, y []byte) bool {
		return len(x) == len(y) && bytes.Equal(whole(x), whole(y))
	})
}

// R5: arguments are left as they were, their spare room and their order included, and nothing of them is kept.
func TestArgumentsAreLeft(t *testing.T) {
	m := someMap()
	for _, w := range []int{1, 4, 32} {
		a, was := ready(m, w), ready(m, w)
		root := m.root(w)
		calls := map[string]func(){
			"Verify":     func() { client.Verify(w, root, keyM, a.raws[0]) },
			"Path":       func() { client.Path(w, keyM, a.raws[0]) },
			"Extract":    func() { client.Extract(w, root, keyM, a.raws[0], a.raws[1]) },
			"Advance":    func() { client.Advance(w, root, a.raws[1], a.cs[1]) },
			"Renew":      func() { client.Renew(w, root, keyM, a.raws[0], a.raws[1], a.cs[1]) },
			"Renew own":  func() { client.Renew(w, root, keyB, a.raws[2], a.raws[2], a.cs[2]) },
			"AdvanceAll": func() { client.AdvanceAll(w, root, a.cs, a.raws) },
		}
		for name, call := range calls {
			call()
			if !sameArgs(a, was) {
				t.Fatalf("R5: %s has changed what it was handed", name)
			}
		}
		// A refused call changes nothing, either.
		client.AdvanceAll(w, api.Digest{31: 7}, a.cs, a.raws)
		client.Renew(w, root, keyM, a.raws[0], a.raws[0], a.cs[1])
		client.Verify(w, root, keyB, a.raws[0])
		if !sameArgs(a, was) {
			t.Fatalf("R4: a refused call has changed what it was handed")
		}
		sum, _ := client.AdvanceAll(w, root, a.cs, a.raws)
		if want := m.behind(was.cs...).root(w); sum != want {
			t.Errorf("P13.11: %x, want %x", sum, want)
		}
		a.spoil()
		if again, e := client.AdvanceAll(w, root, was.cs, was.raws); again != sum || e != api.OK {
			t.Errorf("R5: something was kept: %x, %v", again, e)
		}
	}
}

// P13.6, R5: the value is new memory.
func TestAnswerIsNewMemory(t *testing.T) {
	m := someMap()
	for _, k := range []api.Key{keyM, flipped(keyM, 40), flipped(keyM, 3)} {
		raw := roomy(m.raw(4, k))
		was := slices.Clone(whole(raw))
		got, e := client.Verify(4, m.root(4), k, raw)
		if e != api.OK {
			t.Fatal(e)
		}
		spoil(got.Val)
		if !bytes.Equal(whole(raw), was) {
			t.Errorf("R5: the value shares memory with the proof")
		}
		got, _ = client.Verify(4, m.root(4), k, raw)
		spoil(raw)
		if string(got.Val) != m[k] {
			t.Errorf("R5: the proof shares memory with the value")
		}
	}
}

// R5: a path is a list of its own.
func TestPathIsNewMemory(t *testing.T) {
	raw := rawOf(full(4, 1))
	want, _ := readPath(4, keyM, raw)
	for range 2 {
		got, e := client.Path(4, keyM, raw)
		if !slices.Equal(got, want) || e != api.OK {
			t.Fatalf("R5: another path, %v", e)
		}
		for i := range got[:cap(got)] {
			got[:cap(got)][i] = api.Digest{9}
		}
		_ = append(got, api.Digest{7})
	}
	if !bytes.Equal(raw, rawOf(full(4, 1))) {
		t.Errorf("R5: the path shares memory with the proof")
	}
}

// R5: the two texts share no memory with one another, nor with the proofs.
func TestTextsAreNewMemory(t *testing.T) {
	m := someMap()
	x := m.said(t, 1, keyM)
	for _, height := range []int{0, 1, 9, 256} {
		y := x.meets(t, height, height, false)
		p1, p2 := roomy(x.raw()), roomy(y.raw())
		was1, was2 := slices.Clone(whole(p1)), slices.Clone(whole(p2))
		want1, want2, _ := readExtract(1, m.root(1), keyM, p1, p2)
		one, two, is := client.Extract(1, m.root(1), keyM, p1, p2)
		if !is || !bytes.Equal(one, want1) || !bytes.Equal(two, want2) {
			t.Fatalf("P13.8: height %d: %x, %x", height, one, two)
		}
		spoil(one)
		if !bytes.Equal(two, want2) || !bytes.Equal(whole(p1), was1) || !bytes.Equal(whole(p2), was2) {
			t.Errorf("R5: height %d: the first text shares memory", height)
		}
		spoil(two)
		if !bytes.Equal(whole(p1), was1) || !bytes.Equal(whole(p2), was2) {
			t.Errorf("R5: height %d: the second text shares memory", height)
		}
		one, two, _ = client.Extract(1, m.root(1), keyM, p1, p2)
		spoil(p1)
		spoil(p2)
		if !bytes.Equal(one, want1) || !bytes.Equal(two, want2) {
			t.Errorf("R5: height %d: the proofs share memory with the texts", height)
		}
	}
}

// R5: a renewed proof shares no memory with the two that it comes from, nor with the change.
func TestRenewedIsNewMemory(t *testing.T) {
	m := someMap()
	for _, k := range []api.Key{keyM, keyB} {
		raw, rawAt := roomy(m.raw(4, k)), roomy(m.raw(4, keyM))
		c := api.Change{Key: keyM, Val: roomy([]byte("new"))}
		want := m.behind(c).raw(4, k)
		was := [][]byte{slices.Clone(whole(raw)), slices.Clone(whole(rawAt)), slices.Clone(whole(c.Val))}
		got, e := client.Renew(4, m.root(4), k, raw, rawAt, c)
		if !bytes.Equal(got, want) || e != api.OK {
			t.Fatalf("P13.10: %x, %v, want %x", got, e, want)
		}
		spoil(got)
		if !bytes.Equal(whole(raw), was[0]) || !bytes.Equal(whole(rawAt), was[1]) || !bytes.Equal(whole(c.Val), was[2]) {
			t.Errorf("R5: the renewed proof shares memory with what it comes from")
		}
		got, _ = client.Renew(4, m.root(4), k, raw, rawAt, c)
		spoil(raw)
		spoil(rawAt)
		spoil(c.Val)
		if !bytes.Equal(got, want) {
			t.Errorf("R5: what it comes from shares memory with the renewed proof")
		}
	}
}
