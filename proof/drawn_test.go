package proof_test

import (
	"fmt"
	"math/rand/v2"
	"testing"

	"ledger/api"
)

// pick tells one of a list.
func pick[T any](rnd *rand.Rand, list ...T) T { return list[rnd.IntN(len(list))] }

// drawnKeys tells keys of which some are near others, a few of them as near as may be.
func drawnKeys(rnd *rand.Rand, n int) (keys []api.Key) {
	for len(keys) < n {
		k := keyOf(fmt.Sprintf("%05b", rnd.IntN(32)))
		if rnd.IntN(4) == 0 {
			for i := range k {
				k[i] = byte(rnd.Uint32())
			}
		}
		if len(keys) > 0 && rnd.IntN(3) == 0 {
			k = flipped(pick(rnd, keys...), pick(rnd, 0, 1, 2, 3, 5, 8, 9, 20, 40))
		}
		if len(keys) == n-1 {
			k = flipped(keys[0], pick(rnd, 100, 254, 255))
		}
		keys = append(keys, k)
	}
	return keys
}

// drawnList tells changes of unlike keys, in any order.
func drawnList(rnd *rand.Rand, keys []api.Key, most int) (cs []api.Change) {
	seen := map[api.Key]int{}
	for range rnd.IntN(most + 1) {
		k := pick(rnd, keys...)
		if seen[k]++; seen[k] == 1 {
			cs = append(cs, pick(rnd, del(k), put(k, ""), put(k, "a"), put(k, "b"), put(k, string(text(1, 128)))))
		}
	}
	return cs
}

// version is a tree that was made, with its map.
type version struct {
	root int
	m    entries
}

// P12.2 to P12.6 of drawn maps, each made out of an earlier one, at all widths: by the path's pages, by the map alone, and up to the root.
func TestDrawnMaps(t *testing.T) {
	for seed := range uint64(32) {
		rnd := rand.New(rand.NewPCG(seed, 12))
		r := begun(t, fmt.Sprintf("seed %d", seed), 3500, 1+int(seed))
		keys := drawnKeys(rnd, 12)
		all := []version{{0, entries{}}}
		for range 8 {
			from := pick(rnd, all...)
			cs := drawnList(rnd, keys, pick(rnd, 1, 3, 8))
			all = append(all, version{r.update(from.root, cs...), from.m.behind(cs)})
			if rnd.IntN(4) == 0 {
				r.flush()
			}
		}
		r.quiet(func() {
			for _, v := range all {
				for _, k := range []api.Key{pick(rnd, keys...), pick(rnd, keys...), flipped(pick(rnd, keys...), rnd.IntN(256))} {
					r.asRead(v.root, k)
					r.proves(v.root, k, v.m.proof(r.width(), k))
					r.leads(v.root, k, v.m)
				}
			}
		})
	}
}

// forger stages trees that are not quite right.
type forger struct {
	*rig
	*rand.Rand
	parts map[string][][2]int // by row: the pages that were staged there, with their counts
	keys  []api.Key           // of the leaves
}

// one tells true once in n times.
func (f *forger) one(n int) bool { return f.IntN(n) == 0 }

// tree stages what stands under a row, a few levels deep, or takes what stands there in another tree; it tells its page and count, and seldom lies.
func (f *forger) tree(row string, levels int) (page, count int) {
	f.Helper()
	if had := f.parts[row]; len(had) > 0 && f.one(3) {
		part := pick(f.Rand, had...)
		return part[0], part[1]
	}
	defer func() { f.parts[row] = append(f.parts[row], [2]int{page, count}) }()
	switch {
	case f.one(6):
		return 0, 0
	case levels == 0 || f.one(4):
		if f.one(12) {
			row = fmt.Sprintf("%06b", f.IntN(64))
		}
		k := keyOf(row + fmt.Sprintf("%03b", f.IntN(8)))
		f.keys = append(f.keys, k)
		return f.leaf(k, pick(f.Rand, "", "a", "b")), 1
	case f.one(30):
		return f.forge(f.IntN(3)+1, text(f.IntN(99), f.IntN(170))), 1 + f.IntN(2)
	}
	left, lefts := f.tree(row+"0", levels-1)
	right, rights := f.tree(row+"1", levels-1)
	left, lefts = f.lie(left, lefts)
	right, rights = f.lie(right, rights)
	if lefts+rights < 2 && !f.one(20) {
		return max(left, right), lefts + rights
	}
	return f.stated(len(row), left, right, lefts, rights), lefts + rights
}

// stated stages a branch whose digests are made up, those of empty subtrees among them.
func (f *forger) stated(bits, left, right, lefts, rights int) int {
	f.Helper()
	sum := func(page int) api.Digest {
		if page == 0 {
			return api.Digest{}
		}
		return pick(f.Rand, sumOf(page), emptySum(f.width(), 255-bits), emptySum(f.width(), 256-bits), api.Digest{})
	}
	return f.stating(left, right, lefts, rights, sum(left), sum(right))
}

// lie tells a child as it is, or now and then another one.
func (f *forger) lie(page, count int) (int, int) {
	if page == 0 || !f.one(15) {
		return page, count
	}
	switch f.IntN(5) {
	case 0:
		return f.s.Next() + f.IntN(6) - 2, count
	case 1:
		return 2 + f.IntN(f.s.Next()), count
	case 2:
		return page, 4090 + f.IntN(6)
	}
	return page, max(count+f.IntN(4)-1, 0)
}

// P12.1 to P12.3: forged trees are proved or refused as the promises say.
func TestDrawnForgeries(t *testing.T) {
	found, missing, wrong := 0, 0, 0
	for seed := range uint64(250) {
		rnd := rand.New(rand.NewPCG(seed, 13))
		r := begun(t, fmt.Sprintf("forged, seed %d", seed), 900, pick(rnd, 1, 2, 4, 32))
		f := &forger{r, rnd, map[string][][2]int{}, []api.Key{keyK}}
		for range 5 {
			root, _ := f.tree("", 5)
			if root >= r.s.Next() {
				continue
			}
			for range 8 {
				k := pick(rnd, keyOf(fmt.Sprintf("%08b", f.IntN(256))), pick(rnd, f.keys...))
				switch x := r.asRead(root, k); {
				case x.broken:
					wrong++
				case x.leaf.Kind == api.KindLeaf && x.leaf.Key == k:
					found++
				default:
					missing++
				}
			}
		}
	}
	if found < 200 || missing < 1000 || wrong < 300 {
		t.Errorf("%d keys were found, %d not, %d refused: the trees say too little", found, missing, wrong)
	}
}
