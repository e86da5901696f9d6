package walk_test

import (
	"encoding/binary"
	"slices"
	"strings"

	"ledger/api"
	"ledger/walk"
)

// What follows reads the promises word for word, by rows of letters: it is slow, and its shape is not the program's.

// stand is what a tree has at a place, as it is known ahead of a look: the root's page alone, or what its branch says.
type stand struct {
	page, count, above int
	root, seen         bool
	leaf               api.Node // one that was found here or further up
}

func rootAt(page int) stand { return stand{page: page, root: true} }

// reading is one call's look at a tree.
type reading struct {
	*rig
	loads   int
	looked  []int // which pages, in turn, those too that are refused ahead of their load
	broken  bool
	list    []api.Entry
	atEntry []int // how many loads there were when each entry was found
}

// look is what is asked of a page in its place (the chapter's first section).
func (x *reading) look(row string, at stand) (n api.Node, fits bool) {
	x.looked = append(x.looked, at.page)
	if !at.root && at.page >= at.above {
		return api.Node{}, false
	}
	x.loads++
	kind, load, e := x.s.Load(at.page)
	if e != api.OK {
		return api.Node{}, false
	}
	switch {
	case kind == api.KindLeaf && len(load) >= 32 && len(load) <= 160:
		n = api.Node{Kind: kind, Key: api.Key(load[:32]), Val: load[32:]}
		return n, (at.root || at.count == 1) && strings.HasPrefix(bitsOf(n.Key), row)
	case kind == api.KindBranch && len(load) == 80:
		field := func(place int) int { return int(binary.LittleEndian.Uint32(load[place:])) }
		n = api.Node{Kind: kind, Left: field(0), Right: field(4), LeftCount: field(8), RightCount: field(12)}
		empty := string(make([]byte, 32))
		may := mayBe(n) && (n.Left != 0 || string(load[16:48]) == empty) && (n.Right != 0 || string(load[48:]) == empty)
		return n, may && (at.root || at.count == n.LeftCount+n.RightCount) && len(row) < 256
	}
	return api.Node{}, false
}

// mayBe tells whether a branch is one by its numbers (P9.2).
func mayBe(n api.Node) bool {
	side := func(page, count int) bool {
		return page == 0 && count == 0 || page >= 2 && page < 4096 && count > 0
	}
	keys := n.LeftCount + n.RightCount
	return side(n.Left, n.LeftCount) && side(n.Right, n.RightCount) && n.Left != n.Right && keys >= 2 && keys <= 4096
}

// childrenOf tells what a branch says of its children.
func childrenOf(page int, n api.Node) (left, right stand) {
	return stand{page: n.Left, count: n.LeftCount, above: page}, stand{page: n.Right, count: n.RightCount, above: page}
}

// through goes through the subtree under a row (P11.2, P11.6), until there are so many entries, and tells whether to go on.
func (x *reading) through(row string, at stand, lo, hi string, most int) bool {
	low, high := row+strings.Repeat("0", 256-len(row)), row+strings.Repeat("1", 256-len(row))
	if at.page == 0 || high < lo || low > hi {
		return true
	}
	n, fits := x.look(row, at)
	if !fits {
		x.broken = true
		return false
	}
	if n.Kind == api.KindLeaf {
		if path := bitsOf(n.Key); path >= lo && path <= hi {
			x.list = append(x.list, api.Entry{Key: n.Key, Val: n.Val})
			x.atEntry = append(x.atEntry, x.loads)
		}
		return len(x.list) < most
	}
	left, right := childrenOf(at.page, n)
	return x.through(row+"0", left, lo, hi, most) && x.through(row+"1", right, lo, hi, most)
}

// readFrom tells what lies from one key to another, up to so many entries, and what is looked at for it.
func (r *rig) readFrom(root int, lo, hi api.Key, most int) *reading {
	x := &reading{rig: r}
	x.through("", rootAt(root), bitsOf(lo), bitsOf(hi), most)
	return x
}

// readRank is P11.9.
func (r *rig) readRank(root int, k api.Key) (*reading, int) {
	x := &reading{rig: r}
	path, at, below := bitsOf(k), rootAt(root), 0
	for bits := 0; at.page != 0; bits++ {
		n, fits := x.look(path[:bits], at)
		if !fits {
			x.broken = true
			return x, 0
		}
		if n.Kind == api.KindLeaf {
			if bitsOf(n.Key) < path {
				below++
			}
			break
		}
		left, right := childrenOf(at.page, n)
		if at = left; path[bits] == '1' {
			at = right
			below += n.LeftCount
		}
	}
	return x, below
}

// readAt is P11.10, behind the refusals that come ahead of the root's look.
func (r *rig) readAt(root, i int) (*reading, api.Errno) {
	x := &reading{rig: r}
	at, row := rootAt(root), ""
	for {
		n, fits := x.look(row, at)
		switch {
		case !fits:
			x.broken = true
			return x, api.ErrCorrupt
		case n.Kind == api.KindLeaf && i > 0, n.Kind == api.KindBranch && i >= n.LeftCount+n.RightCount:
			return x, api.ErrRange
		case n.Kind == api.KindLeaf:
			x.list = []api.Entry{{Key: n.Key, Val: n.Val}}
			return x, api.OK
		}
		left, right := childrenOf(at.page, n)
		if i < n.LeftCount {
			at, row = left, row+"0"
		} else {
			at, row, i = right, row+"1", i-n.LeftCount
		}
	}
}

// readBetween is P11.7 and P11.8: row by row, all of one length ahead of the longer ones, and sorted at the end.
func (r *rig) readBetween(a, b int) (*reading, []api.Change) {
	x := &reading{rig: r}
	at := [2]map[string]stand{{"": rootAt(a)}, {"": rootAt(b)}}
	found := [2]entries{{}, {}}
	for open := []string{""}; len(open) > 0; open = open[1:] {
		row := open[0]
		if at[0][row].page == at[1][row].page {
			continue
		}
		branches := 0
		for tree := range 2 {
			here := at[tree][row]
			if here.page != 0 && !here.seen {
				n, fits := x.look(row, here)
				if !fits {
					x.broken = true
					return x, nil
				}
				if n.Kind == api.KindBranch {
					branches++
					at[tree][row+"0"], at[tree][row+"1"] = childrenOf(here.page, n)
					continue
				}
				here.seen, here.leaf = true, n
				at[tree][row] = here
			}
			if here.page != 0 && len(row) < 256 {
				at[tree][bitsOf(here.leaf.Key)[:len(row)+1]] = here
			}
		}
		if branches > 0 {
			open = append(open, row+"0", row+"1")
			continue
		}
		for tree := range 2 {
			if leaf := at[tree][row].leaf; at[tree][row].page != 0 {
				found[tree][leaf.Key] = string(leaf.Val)
			}
		}
	}
	return x, found[0].to(found[1])
}

// asReadFrom asks of All from a key on that it gives what the promises say, looks at each page in its turn, and tells why it ended.
func (r *rig) asReadFrom(root int, k api.Key) *reading {
	r.Helper()
	x := r.readFrom(root, k, keyZ, highest)
	w := walk.From(r.s, root, k)
	before := r.loads()
	var list []api.Entry
	var atEntry []int
	for entry := range w.All() {
		list = append(list, entry)
		atEntry = append(atEntry, r.loads()-before)
		if w.Err() != api.OK {
			r.Errorf("%s: From(%d, %x): Err is %v at an entry", r.promise, root, k, w.Err())
		}
	}
	loads := r.loads() - before
	want := api.OK
	if x.broken {
		want = api.ErrCorrupt
	}
	if told(list) != told(x.list) || w.Err() != want {
		r.Errorf("%s: From(%d, %x) gives %s, Err %v, want %s, %v", r.promise, root, k, told(list), w.Err(), told(x.list), want)
	}
	if !slices.Equal(atEntry, x.atEntry) || loads != x.loads {
		r.Errorf("%s: From(%d, %x) has loaded %v pages at its entries, %d in all, want %v, %d", r.promise, root, k, atEntry, loads, x.atEntry, x.loads)
	}
	return x
}

// asReadScan asks the same of a Scan with right arguments.
func (r *rig) asReadScan(root int, lo, hi api.Key, limit int) *reading {
	r.Helper()
	x := r.readFrom(root, lo, hi, limit+1)
	before := r.loads()
	list, more, e := walk.Scan(r.s, root, lo, hi, limit)
	loads := r.loads() - before
	var want []api.Entry
	why, goesOn := api.OK, false
	if x.broken {
		why = api.ErrCorrupt
	} else {
		goesOn = len(x.list) > limit
		want = x.list[:min(limit, len(x.list))]
	}
	if told(list) != told(want) || more != goesOn || e != why {
		r.Errorf("%s: Scan(%d, %x, %x, %d) = %s, %t, %v, want %s, %t, %v", r.promise, root, lo, hi, limit, told(list), more, e, told(want), goesOn, why)
	}
	if loads != x.loads {
		r.Errorf("%s: Scan(%d, %x, %x, %d) loads %d pages, want %d", r.promise, root, lo, hi, limit, loads, x.loads)
	}
	return x
}

// asReadBetween asks the same of Between; of one that is refused the loads are not asked.
func (r *rig) asReadBetween(a, b int) (*reading, []api.Change) {
	r.Helper()
	x, want := r.readBetween(a, b)
	if x.broken {
		r.differs(a, b, api.ErrCorrupt)
	} else {
		r.differsBy(a, b, x.loads, want...)
	}
	return x, want
}

// asReadRank asks the same of Rank.
func (r *rig) asReadRank(root int, k api.Key) *reading {
	r.Helper()
	x, want := r.readRank(root, k)
	before := r.loads()
	why := api.OK
	if x.broken {
		why = api.ErrCorrupt
	}
	r.ranks(root, k, want, why)
	if n := r.loads() - before; n != x.loads {
		r.Errorf("%s: Rank(%d, %x) loads %d pages, want %d", r.promise, root, k, n, x.loads)
	}
	return x
}

// asReadAt asks the same of At, with a root that is not 0 and a number that is not below 0.
func (r *rig) asReadAt(root, i int) *reading {
	r.Helper()
	x, why := r.readAt(root, i)
	before := r.loads()
	if why == api.OK {
		r.has(root, i, x.list[0].Key, string(x.list[0].Val))
	} else {
		r.hasNot(root, i, why)
	}
	if n := r.loads() - before; n != x.loads {
		r.Errorf("%s: At(%d, %d) loads %d pages, want %d", r.promise, root, i, n, x.loads)
	}
	return x
}
