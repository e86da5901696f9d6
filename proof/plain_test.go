package proof_test

import (
	"encoding/binary"
	"slices"
	"strings"

	"ledger/api"
)

// What follows reads the promises word for word, by rows of letters and a list of 256 digests: it is slow, and its shape is not the program's.

// reading is one key's path through a tree, as the promises say it.
type reading struct {
	*rig
	looked   []int            // which pages, in turn, those too that are refused ahead of their load
	broken   bool             // one of them does not stand
	branches map[int]api.Node // the path's branches by their heights
	leaf     api.Node         // at the path's end, or the zero Node
}

// nodeOn tells the node on a page by the bytes alone, and whether there is one at all (P9.1, P9.2).
func (r *rig) nodeOn(page int) (n api.Node, is bool) {
	kind, load, e := r.s.Load(page)
	switch {
	case e != api.OK:
		return api.Node{}, false
	case kind == api.KindLeaf && len(load) >= 32 && len(load) <= 160:
		return api.Node{Kind: kind, Key: api.Key(load[:32]), Val: load[32:]}, true
	case kind != api.KindBranch || len(load) != 80:
		return api.Node{}, false
	}
	at := func(place int) int { return int(binary.LittleEndian.Uint32(load[place:])) }
	n = api.Node{
		Kind: kind, Left: at(0), Right: at(4), LeftCount: at(8), RightCount: at(12),
		LeftSum: api.Digest(load[16:48]), RightSum: api.Digest(load[48:]),
	}
	return n, mayBe(n)
}

// mayBe tells whether a branch is one by its form (P9.2).
func mayBe(n api.Node) bool {
	side := func(page, count int, sum api.Digest) bool {
		if page == 0 {
			return count == 0 && sum == api.Digest{}
		}
		return page >= 2 && page < 4096 && count > 0
	}
	keys := n.LeftCount + n.RightCount
	return side(n.Left, n.LeftCount, n.LeftSum) && side(n.Right, n.RightCount, n.RightSum) &&
		n.Left != n.Right && keys >= 2 && keys <= 4096
}

// readPath looks at the path of a key, page by page (P10.3, P10.4).
func (r *rig) readPath(root int, k api.Key) *reading {
	x := &reading{rig: r, branches: map[int]api.Node{}}
	path, page, count, above := bitsOf(k), root, -1, highest
	for bits := 0; page != 0; bits++ {
		x.looked = append(x.looked, page)
		if page >= above {
			x.broken = true
			return x
		}
		n, is := r.nodeOn(page)
		keys := 1
		if n.Kind == api.KindBranch {
			keys = n.LeftCount + n.RightCount
		}
		row := path[:min(bits, 256)]
		if !is || count >= 0 && count != keys || n.Kind == api.KindBranch && bits == 256 || n.Kind == api.KindLeaf && !strings.HasPrefix(bitsOf(n.Key), row) {
			x.broken = true
			return x
		}
		if n.Kind == api.KindLeaf {
			x.leaf = n
			return x
		}
		x.branches[256-bits] = n
		above, page, count = page, n.Left, n.LeftCount
		if path[bits] == '1' {
			page, count = n.Right, n.RightCount
		}
	}
	return x
}

// beside tells the neighbour's digest at a height (P12.2, its three cases in their order).
func (x *reading) beside(k api.Key, h int) api.Digest {
	w := x.width()
	if n, has := x.branches[h+1]; has {
		page, sum := n.Right, n.RightSum
		if bitsOf(k)[255-h] == '1' {
			page, sum = n.Left, n.LeftSum
		}
		if page == 0 {
			return emptySum(w, h)
		}
		return sum
	}
	if m := x.leaf.Key; x.leaf.Kind == api.KindLeaf && m != k {
		common := 0
		for bitsOf(m)[common] == bitsOf(k)[common] {
			common++
		}
		if h == 255-common {
			return loneSum(w, m, string(x.leaf.Val), h)
		}
	}
	return emptySum(w, h)
}

// readProof tells the proof that a key's path says (P12.2), and the path.
func (r *rig) readProof(root int, k api.Key) (p api.Proof, x *reading) {
	x = r.readPath(root, k)
	if x.broken {
		return api.Proof{}, x
	}
	if x.leaf.Kind == api.KindLeaf && x.leaf.Key == k {
		p.Found, p.Val = true, x.leaf.Val
	}
	for h := range 256 {
		if sum := x.beside(k, h); sum != emptySum(r.width(), h) {
			p.Bits[h/8] |= 1 << (h % 8)
			p.Sums = append(p.Sums, sum)
		}
	}
	return p, x
}

// asRead asks of Prove what the plain reading tells.
func (r *rig) asRead(root int, k api.Key) *reading {
	r.Helper()
	p, x := r.readProof(root, k)
	if x.broken {
		r.refuses(root, k, api.ErrCorrupt)
	} else {
		r.proves(root, k, p)
	}
	return x
}

// looksAt tells whether a path goes over a page.
func (x *reading) looksAt(page int) bool { return slices.Contains(x.looked, page) }
