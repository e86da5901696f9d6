package walk_test

import (
	"fmt"
	"math/rand/v2"
	"testing"

	"ledger/api"
	"ledger/walk"
)

// pick tells one of a list.
func pick[T any](rnd *rand.Rand, list ...T) T { return list[rnd.IntN(len(list))] }

// drawnKeys tells keys of which some are near others, a few of them as near as may be.
func drawnKeys(rnd *rand.Rand, n int) (keys []api.Key) {
	for len(keys) < n {
		k := keyOf(fmt.Sprintf("%05b", rnd.IntN(32)))
		if rnd.IntN(4) == 0 {
			for i := range k {
				k[i] = byte(rnd.Uint32())
			}
		}
		if len(keys) > 0 && rnd.IntN(3) == 0 {
			k = flipped(pick(rnd, keys...), pick(rnd, 0, 1, 2, 3, 5, 8, 9, 20, 40))
		}
		if len(keys) == n-1 {
			k = flipped(keys[0], pick(rnd, 100, 254, 255))
		}
		keys = append(keys, k)
	}
	return keys
}

// drawnList tells changes of unlike keys, in any order.
func drawnList(rnd *rand.Rand, keys []api.Key, most int) (cs []api.Change) {
	seen := map[api.Key]int{}
	for range rnd.IntN(most + 1) {
		k := pick(rnd, keys...)
		if seen[k]++; seen[k] == 1 {
			cs = append(cs, pick(rnd, del(k), put(k, ""), put(k, "a"), put(k, "a"), put(k, string(text(1, 128)))))
		}
	}
	return cs
}

// version is a tree that was made, with its map.
type version struct {
	root int
	m    entries
}

// P11.2 to P11.11 of drawn maps, each made out of an earlier one.
func TestDrawnMaps(t *testing.T) {
	for seed := range uint64(40) {
		rnd := rand.New(rand.NewPCG(seed, 11))
		r := begun(t, fmt.Sprintf("seed %d", seed), 3500)
		keys := drawnKeys(rnd, 14)
		made := []version{{0, entries{}}}
		for range 12 {
			from := pick(rnd, made...)
			cs := drawnList(rnd, keys, pick(rnd, 1, 3, 8))
			made = append(made, version{r.update(from.root, cs...), from.m.behind(cs)})
			r.steps(from, made[len(made)-1])
			if rnd.IntN(4) == 0 {
				r.flush()
			}
		}
		r.quiet(func() {
			for _, v := range made {
				r.isMap(rnd, v, keys)
				other := pick(rnd, made...)
				r.ties(rnd, v, other)
			}
		})
	}
}

// steps asks of Between a tree and the one that was made out of it: the changes, and the bound of P11.8.
func (r *rig) steps(from, to version) {
	r.Helper()
	effects := len(from.m.to(to.m))
	for _, pair := range [][2]version{{from, to}, {to, from}} {
		a, b := pair[0], pair[1]
		r.differs(a.root, b.root, api.OK, a.m.to(b.m)...)
		x, _ := r.asReadBetween(a.root, b.root)
		if x.loads > 514*effects {
			r.Errorf("P11.8: %s: %d pages for %d changes", r.promise, x.loads, effects)
		}
		r.once(x)
	}
}

// isMap asks of a tree what its map says, by every call.
func (r *rig) isMap(rnd *rand.Rand, v version, keys []api.Key) {
	r.Helper()
	asked := []api.Key{keyA, keyZ, moved(pick(rnd, keys...), 1), moved(pick(rnd, keys...), -1)}
	asked = append(asked, keys...)
	for _, k := range asked {
		x := r.asReadFrom(v.root, k)
		want := v.m.between(k, keyZ)
		if told(x.list) != told(want) {
			r.Errorf("P11.2: %s: from %x: %s, want %s", r.promise, k, told(x.list), told(want))
		}
		r.asReadRank(v.root, k)
		r.ranks(v.root, k, len(v.m)-len(want), api.OK)
		hi := pick(rnd, asked...)
		if bitsOf(hi) < bitsOf(k) {
			r.scans(v.root, k, hi, 3, "", false, api.ErrRange)
			continue
		}
		part := v.m.between(k, hi)
		limit := rnd.IntN(len(part) + 2)
		list, more, e := walk.Scan(r.s, v.root, k, hi, limit)
		if told(list) != told(part[:min(limit, len(part))]) || more != (limit < len(part)) || e != api.OK {
			r.Errorf("P11.5: %s: from %x to %x, limit %d: %s, %t, %v", r.promise, k, hi, limit, told(list), more, e)
		}
		r.asReadScan(v.root, k, hi, limit)
	}
	for i, k := range v.m.rising() {
		r.has(v.root, i, k, v.m[k])
		r.asReadAt(v.root, i)
	}
	r.hasNot(v.root, len(v.m), api.ErrRange)
}

// ties asks what P11.11 says, of the calls' answers alone.
func (r *rig) ties(rnd *rand.Rand, v, other version) {
	r.Helper()
	all, _ := given(walk.From(r.s, v.root, keyA))
	for i := range all {
		x, e := walk.At(r.s, v.root, i)
		n, e2 := walk.Rank(r.s, v.root, x.Key)
		if n != i || e != api.OK || e2 != api.OK {
			r.Errorf("P11.11: %s: Rank of At(%d)'s key is %d, %v, %v", r.promise, i, n, e, e2)
		}
	}
	for range 6 {
		lo := moved(pick(rnd, append(v.m.rising(), keyA, keyB, keyZ)...), int64(rnd.IntN(3)-1))
		hi := moved(pick(rnd, append(v.m.rising(), keyC, keyZ)...), int64(rnd.IntN(3)-1))
		from, _ := given(walk.From(r.s, v.root, lo))
		n, _ := walk.Rank(r.s, v.root, lo)
		x, e := walk.At(r.s, v.root, n)
		if len(from) == 0 && e != api.ErrRange || len(from) > 0 && told(from[:1]) != told([]api.Entry{x}) {
			r.Errorf("P11.11: %s: At(Rank(%x)) is %x, %v", r.promise, lo, x.Key, e)
		}
		if bitsOf(lo) > bitsOf(hi) {
			continue
		}
		var upTo []api.Entry
		for _, x := range from {
			if bitsOf(x.Key) <= bitsOf(hi) {
				upTo = append(upTo, x)
			}
		}
		if list, more, e := walk.Scan(r.s, v.root, lo, hi, 1000); told(list) != told(upTo) || more || e != api.OK {
			r.Errorf("P11.11: %s: Scan from %x to %x: %s, %t, %v, want %s", r.promise, lo, hi, told(list), more, e, told(upTo))
		}
	}
	cs, e := walk.Between(r.s, v.root, other.root)
	if got := v.m.behind(cs); told(got.between(keyA, keyZ)) != told(other.m.between(keyA, keyZ)) || e != api.OK {
		r.Errorf("P11.11: %s: the changes of Between make %s, %v", r.promise, told(got.between(keyA, keyZ)), e)
	}
	r.asReadBetween(v.root, other.root)
	r.differs(v.root, other.root, api.OK, v.m.to(other.m)...)
	r.differs(0, v.root, api.OK, v.m.puts()...)
	r.differs(v.root, 0, api.OK, v.m.to(entries{})...)
}

// forger stages trees that are not quite right.
type forger struct {
	*rig
	*rand.Rand
	parts map[string][][2]int // by row: the pages that were staged there, with their counts
}

// one tells true once in n times.
func (f *forger) one(n int) bool { return f.IntN(n) == 0 }

// tree stages what stands under a row, a few levels deep, or takes what stands there in another tree; it tells its page and count, and seldom lies.
func (f *forger) tree(row string, levels int) (page, count int) {
	f.Helper()
	if had := f.parts[row]; len(had) > 0 && f.one(3) {
		part := pick(f.Rand, had...)
		return part[0], part[1]
	}
	defer func() { f.parts[row] = append(f.parts[row], [2]int{page, count}) }()
	switch {
	case f.one(6):
		return 0, 0
	case levels == 0 || f.one(4):
		if f.one(25) {
			row = fmt.Sprintf("%06b", f.IntN(64))
		}
		return f.leaf(keyOf(row+fmt.Sprintf("%03b", f.IntN(8))), pick(f.Rand, "", "a", "b")), 1
	case f.one(60):
		return f.forge(f.IntN(3)+1, text(f.IntN(99), f.IntN(170))), 1 + f.IntN(2)
	}
	left, lefts := f.tree(row+"0", levels-1)
	right, rights := f.tree(row+"1", levels-1)
	left, lefts = f.lie(left, lefts)
	right, rights = f.lie(right, rights)
	if lefts+rights < 2 && !f.one(20) {
		return max(left, right), lefts + rights
	}
	return f.branch(left, right, lefts, rights), lefts + rights
}

// lie tells a child as it is, or now and then another one.
func (f *forger) lie(page, count int) (int, int) {
	if page == 0 || !f.one(30) {
		return page, count
	}
	switch f.IntN(5) {
	case 0:
		return f.s.Next() + f.IntN(6) - 2, count
	case 1:
		return 2 + f.IntN(f.s.Next()), count
	case 2:
		return page, 4090 + f.IntN(6)
	}
	return page, max(count+f.IntN(4)-1, 0)
}

// near tells a key that lies where the forged ones do.
func (f *forger) near() api.Key {
	return moved(keyOf(fmt.Sprintf("%08b", f.IntN(256))), int64(f.IntN(3)-1))
}

// Forged trees are taken or refused as the promises say, and each page is looked at in its turn.
func TestDrawnForgeries(t *testing.T) {
	right, wrong := map[string]int{}, map[string]int{}
	note := func(call string, x *reading) {
		if x.broken {
			wrong[call]++
		} else {
			right[call]++
		}
	}
	for seed := range uint64(250) {
		rnd := rand.New(rand.NewPCG(seed, 12))
		r := begun(t, fmt.Sprintf("forged, seed %d", seed), 900)
		f := &forger{r, rnd, map[string][][2]int{}}
		var roots []int
		for range 5 {
			if root, _ := f.tree("", 5); root < r.s.Next() {
				roots = append(roots, root)
			}
		}
		for _, root := range roots {
			lo, hi := f.near(), f.near()
			if bitsOf(lo) > bitsOf(hi) {
				lo, hi = hi, lo
			}
			note("From", r.asReadFrom(root, pick(rnd, keyA, lo, hi)))
			note("Scan", r.asReadScan(root, lo, hi, pick(rnd, 0, 1, 2, 5, 1000)))
			note("Rank", r.asReadRank(root, lo))
			if root != 0 {
				note("At", r.asReadAt(root, rnd.IntN(8)))
			}
			for _, other := range append(roots, 0) {
				x, _ := r.asReadBetween(root, other)
				note("Between", x)
			}
		}
	}
	for _, call := range []string{"From", "Scan", "Rank", "At", "Between"} {
		if right[call] < 150 || wrong[call] < 60 {
			t.Errorf("%s: %d trees were right, %d wrong: the trees say too little", call, right[call], wrong[call])
		}
	}
}
