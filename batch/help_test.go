package batch_test

import (
	"bytes"
	"encoding/binary"
	"math/rand"
	"slices"
	"testing"

	"ledger/api"
)

// The keys of the chapter's examples.
var (
	keyA = api.Key{}
	keyB = api.Key{0: 128}
	keyC = api.Key{31: 1}
)

func put(k api.Key, v string) api.Change { return api.Change{Key: k, Val: []byte(v)} }
func del(k api.Key) api.Change           { return api.Change{Key: k, Del: true} }

// long tells a value of n bytes.
func long(n int) string { return string(bytes.Repeat([]byte{7}, n)) }

// numbered tells the i-th of many unlike keys; they rise with i.
func numbered(i int) api.Key {
	k := api.Key{0: 9, 31: 9}
	binary.BigEndian.PutUint32(k[14:], uint32(i))
	return k
}

// deletes tells n deletes of unlike keys.
func deletes(n int) []api.Change {
	var cs []api.Change
	for i := range n {
		cs = append(cs, del(numbered(i)))
	}
	return cs
}

// with tells the list with one change put in the place of another.
func with(cs []api.Change, i int, c api.Change) []api.Change {
	cs = slices.Clone(cs)
	cs[i] = c
	return cs
}

// randomKey tells a key that shares, as often as not, many first bits with others.
func randomKey(r *rand.Rand) api.Key {
	var k api.Key
	for i := r.Intn(len(k)); i < len(k); i++ {
		k[i] = byte(r.Intn(256))
	}
	return k
}

// randomList tells a list of n changes with unlike keys; deletes too may have bytes in Val.
func randomList(r *rand.Rand, n int) []api.Change {
	var cs []api.Change
	seen := map[api.Key]bool{}
	for len(cs) < n {
		c := api.Change{Key: randomKey(r), Del: r.Intn(3) == 0, Val: make([]byte, r.Intn(api.MaxVal+1))}
		if seen[c.Key] {
			continue
		}
		seen[c.Key] = true
		r.Read(c.Val)
		if c.Del && r.Intn(2) == 0 {
			c.Val = nil
		}
		cs = append(cs, c)
	}
	return cs
}

// told tells the list as it is answered: without what stands beside a delete.
func told(cs []api.Change) []api.Change {
	cs = slices.Clone(cs)
	for i := range cs {
		if cs[i].Del {
			cs[i].Val = nil
		}
	}
	return cs
}

func same(a, b []api.Change) bool {
	return slices.EqualFunc(a, b, func(x, y api.Change) bool {
		return x.Key == y.Key && x.Del == y.Del && bytes.Equal(x.Val, y.Val)
	})
}

// roomy is a list that was cut out of a longer one, its values out of longer ones, with a copy of all that.
type roomy struct {
	list, whole, kept []api.Change
}

func makeRoomy(cs []api.Change) roomy {
	whole := slices.Concat(cs, deletes(5))
	for i := range whole {
		val := slices.Concat(whole[i].Val, []byte("spare room"))
		whole[i].Val = val[:len(whole[i].Val)]
	}
	return roomy{list: whole[:len(cs)], whole: whole, kept: deepCopy(whole)}
}

// deepCopy copies the values with the room behind them.
func deepCopy(cs []api.Change) []api.Change {
	cs = slices.Clone(cs)
	for i := range cs {
		n := len(cs[i].Val)
		cs[i].Val = slices.Clone(cs[i].Val[:cap(cs[i].Val)])[:n]
	}
	return cs
}

// touched tells whether anything of the list is no more as it was, the room behind it included.
func (l roomy) touched() bool {
	return !slices.EqualFunc(l.whole, l.kept, func(x, y api.Change) bool {
		n := len(y.Val) + len("spare room")
		return x.Key == y.Key && x.Del == y.Del && len(x.Val) == len(y.Val) && bytes.Equal(x.Val[:n], y.Val[:n])
	})
}

// scribble writes over all bytes of b and of the room behind it.
func scribble(b []byte) {
	b = b[:cap(b)]
	for i := range b {
		b[i] ^= 0xFF
	}
}

// scribbleList writes over a list and the room behind it, and over its values.
func scribbleList(cs []api.Change) {
	for _, c := range cs {
		scribble(c.Val)
	}
	cs = cs[:cap(cs)]
	for i := range cs {
		cs[i] = api.Change{Key: api.Key{5: 5}, Del: !cs[i].Del, Val: []byte("scribbled")}
	}
}

// checkAnswer holds an answered list against a call that makes it anew out of a list of the same text: nothing may be shared.
func checkAnswer(t *testing.T, name string, args []roomy, call func() []api.Change) {
	t.Helper()
	first, second := call(), call()
	kept := deepCopy(second)
	for i := range first {
		others := deepCopy(first)
		scribble(first[i].Val)
		for j := range first {
			if j != i && !bytes.Equal(first[j].Val, others[j].Val) {
				t.Errorf("%s: the values of changes %d and %d share memory", name, i, j)
			}
		}
	}
	scribbleList(first)
	if !same(second, kept) || !same(call(), kept) {
		t.Errorf("%s: two answers share memory", name)
	}
	for i, l := range args {
		if l.touched() {
			t.Errorf("%s: list %d was changed, or the answer shares memory with it", name, i)
		}
	}
	for _, l := range args {
		scribbleList(l.whole)
	}
	if !same(second, kept) {
		t.Errorf("%s: the answer changes with the lists that were handed in", name)
	}
}
