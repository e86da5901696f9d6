package tree_test

import (
	"fmt"
	"math/rand/v2"
	"testing"

	"ledger/api"
	"ledger/tree"
)

// pick tells one of a list.
func pick[T any](rnd *rand.Rand, list ...T) T { return list[rnd.IntN(len(list))] }

// drawnKeys tells keys of which some are near others, a few of them as near as may be.
func drawnKeys(rnd *rand.Rand, n int) (keys []api.Key) {
	for len(keys) < n {
		k := keyOf(fmt.Sprintf("%05b", rnd.IntN(32)))
		if rnd.IntN(4) == 0 {
			for i := range k {
				k[i] = byte(rnd.Uint32())
			}
		}
		if len(keys) > 0 && rnd.IntN(3) == 0 {
			k = flipped(pick(rnd, keys...), pick(rnd, 0, 1, 2, 3, 5, 8, 9, 20, 40))
		}
		if len(keys) == n-1 {
			k = flipped(keys[0], pick(rnd, 100, 254, 255))
		}
		keys = append(keys, k)
	}
	return keys
}

// drawnList tells changes of unlike keys, in any order.
func drawnList(rnd *rand.Rand, keys []api.Key, most int) (cs []api.Change) {
	n := rnd.IntN(most + 1)
	seen := map[api.Key]int{}
	for range n {
		k := pick(rnd, keys...)
		seen[k]++
		if seen[k] > 1 {
			continue
		}
		cs = append(cs, pick(rnd, del(k), put(k, ""), put(k, "a"), put(k, "a"), put(k, string(text(1, 128)))))
	}
	return cs
}

// version is a tree that was made, with its map and its digest.
type version struct {
	root int
	m    entries
	sum  api.Digest
}

// P10.1 to P10.18 of drawn maps: each update out of any earlier version, to the last byte.
func TestDrawnMaps(t *testing.T) {
	for seed := range uint64(40) {
		rnd := rand.New(rand.NewPCG(seed, 10))
		r := begun(t, fmt.Sprintf("P10.9: seed %d", seed), 2500, pick(rnd, 1, 2, 4, 27, 32))
		keys := drawnKeys(rnd, 14)
		made := []version{{0, entries{}, emptySum(r.width(), 256)}}
		for range 25 {
			from := made[len(made)-1]
			if rnd.IntN(4) == 0 {
				from = pick(rnd, made...)
			}
			cs := drawnList(rnd, keys, pick(rnd, 1, 3, 8))
			next := r.s.Next()
			root, e := r.asRead(from.root, cs...)
			if e == api.ErrFull {
				break
			}
			made = append(made, r.drawn(from, root, cs, next))
			if rnd.IntN(5) == 0 {
				r.flush()
			}
		}
		for _, v := range made {
			r.promise = fmt.Sprintf("P10.16: seed %d", seed)
			r.tellsMap(v.root, v.m, v.sum)
		}
		r.otherWays(rnd, made)
	}
}

// drawn asks of an update that it has made the map behind it, at the cost that P10.12 says, within the bound of P10.18, and uses all that it staged.
func (r *rig) drawn(from version, root int, cs []api.Change, next int) version {
	r.Helper()
	m := from.m.behind(cs)
	used := r.isMap(root, m)
	staged, effects := r.s.Next()-next, from.m.effects(cs)
	if cost := from.m.costTo(m); staged != cost {
		r.Errorf("P10.12: %d pages, want %d", staged, cost)
	}
	if staged > 257*effects {
		r.Errorf("P10.18: %d pages for %d changes", staged, effects)
	}
	if effects == 0 && root != from.root {
		r.Errorf("P10.14: without effect: page %d, want %d", root, from.root)
	}
	for page := next; page < r.s.Next(); page++ {
		if used[page] != 1 {
			r.Errorf("P10.18: page %d is used %d times", page, used[page])
		}
	}
	sum, _ := tree.Sum(r.s, root)
	return version{root, m, sum}
}

// otherWays asks that each map has one digest, however it came about: from nothing, and from other maps.
func (r *rig) otherWays(rnd *rand.Rand, made []version) {
	r.Helper()
	r.flush()
	fresh := begun(r.T, "P10.17", 4096, r.width())
	again := r.reopened(4)
	for _, v := range made {
		if root, e := tree.Update(fresh.s, 0, v.m.puts()); e == api.OK {
			fresh.sums(root, v.sum)
			fresh.counts(root, len(v.m))
		}
		from := pick(rnd, made...)
		cs := v.m.puts()
		for k := range from.m {
			if _, has := v.m[k]; !has {
				cs = append(cs, del(k))
			}
		}
		again.promise = "P10.17"
		if root, e := tree.Update(again.s, from.root, cs); e == api.OK {
			again.sums(root, v.sum)
			again.counts(root, len(v.m))
		}
	}
}

// P10.18: the bound is reached, by one change and by more of them.
func TestBoundIsReached(t *testing.T) {
	r := begun(t, "P10.18", 1200, 4)
	root := r.updates(0, 4, 3, put(keyK, "k"), put(keyB, "b"))
	r.updates(root, 261, 257, put(keyC, "c"))
	// At the far end of two halves: all 255 rows beneath the root on either side, the root's own, and two leaves.
	r.updates(root, r.s.Next()+512, 513, put(keyC, "c"), put(flipped(keyB, 255), "d"))
}

// forger stages trees that are not quite right.
type forger struct {
	*rig
	*rand.Rand
}

// one tells true once in n times.
func (f *forger) one(n int) bool { return f.IntN(n) == 0 }

// tree stages what stands under a row, a few levels deep, and tells its page and count; it seldom lies.
func (f *forger) tree(row string, levels int) (page, count int) {
	f.Helper()
	switch {
	case f.one(5):
		return 0, 0
	case levels == 0 || f.one(3):
		if f.one(25) {
			row = fmt.Sprintf("%06b", f.IntN(64))
		}
		return f.leaf(keyOf(row+fmt.Sprintf("%03b", f.IntN(8))), pick(f.Rand, "", "a", "b")), 1
	case f.one(40):
		return f.forge(f.IntN(3)+1, text(f.IntN(99), f.IntN(170))), 1 + f.IntN(2)
	}
	left, lefts := f.tree(row+"0", levels-1)
	right, rights := f.tree(row+"1", levels-1)
	left, lefts = f.lie(left, lefts)
	right, rights = f.lie(right, rights)
	if lefts+rights < 2 && !f.one(10) {
		return max(left, right), lefts + rights
	}
	return f.branch(left, right, lefts, rights), lefts + rights
}

// lie tells a child as it is, or now and then another one.
func (f *forger) lie(page, count int) (int, int) {
	if page == 0 || !f.one(9) {
		return page, count
	}
	switch f.IntN(5) {
	case 0:
		return f.s.Next() + f.IntN(6) - 2, count
	case 1:
		return 2 + f.IntN(f.s.Next()), count
	case 2:
		return page, 4090 + f.IntN(6)
	}
	return page, max(count+f.IntN(4)-1, 0)
}

// list tells changes of keys that lie where the forged ones do.
func (f *forger) list(most int) []api.Change {
	keys := []api.Key{keyC, keyOf("1111111111")}
	for range 12 {
		keys = append(keys, keyOf(fmt.Sprintf("%06b", f.IntN(64))))
	}
	return drawnList(f.Rand, keys, most)
}

// P10.3 to P10.11, P10.19: forged trees are taken or refused as the promises say, to the last byte.
func TestDrawnForgeries(t *testing.T) {
	told := map[api.Errno]int{}
	staged, collided := 0, 0
	for seed := range uint64(200) {
		rnd := rand.New(rand.NewPCG(seed, 11))
		r := begun(t, fmt.Sprintf("P10.3: seed %d", seed), pick(rnd, 60, 400, 400, 900), pick(rnd, 1, 4, 32))
		f := &forger{r, rnd}
		var roots []int
		for range 3 {
			root, _ := f.tree("", 5)
			roots = append(roots, root)
			if r.s.Next() > 50 {
				break
			}
		}
		forged := r.s.Next()
		for _, root := range append(roots, 2+rnd.IntN(max(forged-2, 1))) {
			if root < 0 || root == 1 || root >= forged {
				continue
			}
			for range 6 {
				cs := f.list(pick(rnd, 1, 2, 5))
				next := r.s.Next()
				page, e := r.asRead(root, cs...)
				told[e]++
				staged += r.s.Next() - next
				if x := r.readList(root, cs); e == api.ErrCorrupt && !x.broken {
					collided++
				}
				k := keyOf(fmt.Sprintf("%06b", rnd.IntN(64)))
				r.asReadGet(root, k)
				if e == api.OK && page < r.s.Next() {
					r.asReadGet(page, k)
				}
			}
		}
	}
	if told[api.OK] < 500 || told[api.ErrCorrupt] < 500 || told[api.ErrFull] < 10 || staged < 5000 || collided < 10 {
		t.Errorf("%v, %d staged, %d would be no branches: the trees say too little", told, staged, collided)
	}
}
