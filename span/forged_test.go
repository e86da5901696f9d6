package span_test

import (
	"fmt"
	"math/rand/v2"
	"strings"
	"testing"

	"ledger/api"
	"ledger/span"
)

// cut tells a digest cut to a width.
func cut(w int, d api.Digest) api.Digest {
	clear(d[w:])
	return d
}

// wrongs forges what may not stand beneath a root at 4000 (with one key, under the row 0), and tells each with its name.
func (r *rig) wrongs() map[string]int {
	r.Helper()
	next := r.s.Next()
	r.filler(next + 20)
	other := r.leaf(keyA, "other")
	return map[string]int{
		"a record":                    r.forge(api.KindRecord, make([]byte, 60)),
		"a record of a leaf's length": r.forge(api.KindRecord, make([]byte, 33)),
		"a record as a branch":        r.forge(api.KindRecord, append([]byte{byte(other), 0, 0, 0, byte(next), 0, 0, 0, 1, 0, 0, 0, 1, 0, 0, 0}, make([]byte, 64)...)),
		"a leaf of no key at all":     r.forge(api.KindLeaf, nil),
		"a leaf of 31 bytes":          r.forge(api.KindLeaf, make([]byte, 31)),
		"a leaf of 161 bytes":         r.forge(api.KindLeaf, make([]byte, 161)),
		"a leaf with the longest":     r.forge(api.KindLeaf, make([]byte, 246)),
		"a leaf of the right half":    r.leaf(keyB, "b"),
		"a leaf of the highest key":   r.leaf(keyZ, "z"),
		"a branch of 79 bytes":        r.forge(api.KindBranch, make([]byte, 79)),
		"a branch of 81 bytes":        r.forge(api.KindBranch, make([]byte, 81)),
		"a branch without children":   r.forge(api.KindBranch, make([]byte, 80)),
		"a branch of one page twice":  r.branch(other, other, 1, 1),
		"a branch of one key":         r.branch(other, 0, 1, 0),
		"a branch of a slot":          r.branch(1, other, 1, 1),
		"a branch of 4097 keys":       r.branch(other, next, 4096, 1),
		"a branch of two keys":        r.branch(other, next, 1, 1),
		"a branch of a wrong side":    r.branch(other, 0, 0, 2),
		"a branch with a lonely sum":  r.stating(other, 0, 2, 0, sumOf(1), sumOf(2)),
		"a page that is the root's":   4000,
		"a page above the root's":     4001,
		"a page beyond all":           4095,
	}
}

// P14.2: what does not stand is told where a span touches it, and does no harm outside: it is taken as it is stated.
func TestWhatDoesNotStand(t *testing.T) {
	r := begun(t, "", 4096, 4)
	wrongs := r.wrongs()
	right := r.leaf(keyOf("11"), "r")
	r.filler(4000)
	for name, page := range wrongs {
		for _, count := range []int{1, 2} {
			if name == "a branch of two keys" && count == 2 {
				continue // with two keys stated it would be one
			}
			r.promise = fmt.Sprintf("P14.2: %s, stated as %d keys", name, count)
			root := r.branch(page, right, count, 1)
			if root != 4000 {
				t.Fatal(root)
			}
			high := keyOf("0" + strings.Repeat("1", 255))
			for _, at := range [][2]api.Key{{keyA, keyA}, {keyC, keyC}, {keyA, keyZ}, {keyOf("01"), keyB}, {high, high}, {high, keyZ}} {
				r.refuses(root, at[0], at[1], api.ErrCorrupt)
				r.asRead(root, at[0], at[1])
			}
			for _, at := range [][2]api.Key{{keyOf("11"), keyZ}, {keyB, keyB}, {keyB, keyZ}, {keyZ, keyZ}} {
				r.proves(root, at[0], at[1], pairText(sumText(cut(4, leftOf(root))), loneText(keyOf("11"), "r")))
				r.asRead(root, at[0], at[1])
			}
			r.rewind(4000)
		}
	}
}

// P14.2: the same on the right of a root.
func TestWhatDoesNotStandOnTheRight(t *testing.T) {
	r := begun(t, "", 4096, 4)
	wrongs := r.wrongs()
	delete(wrongs, "a leaf of the right half")
	delete(wrongs, "a leaf of the highest key")
	wrongs["a leaf of the left half"] = r.leaf(keyOf("0"+strings.Repeat("1", 255)), "x")
	left := r.leaf(keyOf("01"), "l")
	r.filler(4000)
	for name, page := range wrongs {
		r.promise = "P14.2: " + name
		root := r.branch(left, page, 1, 1)
		for _, at := range [][2]api.Key{{keyB, keyB}, {keyZ, keyZ}, {keyA, keyB}, {keyA, keyZ}, {keyOf("11"), keyZ}} {
			r.refuses(root, at[0], at[1], api.ErrCorrupt)
			r.asRead(root, at[0], at[1])
		}
		for _, at := range [][2]api.Key{{keyA, keyA}, {keyA, moved(keyB, -1)}, {keyOf("01"), keyOf("011")}} {
			r.proves(root, at[0], at[1], pairText(loneText(keyOf("01"), "l"), sumText(cut(4, rightOf(root)))))
		}
		r.rewind(4000)
	}
}

// P14.2: a root is held to its form alone: nobody states its number, its count or its row.
func TestRootIsNotStated(t *testing.T) {
	r := begun(t, "", 4096, 4)
	wrongs := r.wrongs()
	for _, name := range []string{"a leaf of the right half", "a leaf of the highest key", "a branch of two keys", "a page that is the root's", "a page above the root's", "a page beyond all"} {
		delete(wrongs, name)
	}
	for name, root := range wrongs {
		r.promise = "P14.2: as a root: " + name
		r.refuses(root, keyA, keyZ, api.ErrCorrupt)
		r.refuses(root, keyZ, keyZ, api.ErrCorrupt)
	}
	r.promise = "P14.2: the root's place"
	z := r.leaf(keyZ, "z")
	r.proves(z, keyA, keyA, loneText(keyZ, "z"))
	r.filler(4095)
	last := r.branch(r.s.Next()-1, z, 4095, 1)
	if last != 4095 {
		t.Fatal(last)
	}
	r.proves(last, keyZ, keyZ, pairText(sumText(cut(4, leftOf(last))), loneText(keyZ, "z")))
	r.refuses(last, keyA, keyZ, api.ErrCorrupt)
}

// P14.2: counts of a branch beneath a branch that are not its own.
func TestWrongCounts(t *testing.T) {
	for _, lie := range []int{-2, -1, 1, 2, 4000} {
		r := begun(t, fmt.Sprintf("P14.2: counts: %d", lie), 60, 4)
		deep := r.branch(r.leaf(keyOf("010"), "b"), r.leaf(keyOf("011"), "c"), 1, 1)
		low := r.branch(r.leaf(keyOf("00"), "a"), deep, 1, 2)
		d := r.leaf(keyOf("1"), "d")
		root := r.branch(low, d, 3+lie, 1)
		for _, row := range []string{"00", "010", "011", "0111", "001"} {
			r.refuses(root, keyOf(row), keyOf(row), api.ErrCorrupt)
			r.refuses(root, keyOf(row), keyZ, api.ErrCorrupt)
		}
		r.proves(root, keyB, keyZ, pairText(sumText(cut(4, leftOf(root))), loneText(keyOf("1"), "d")))
		right := r.branch(low, d, 3, 1)
		leaves := pairText(loneText(keyOf("010"), "b"), loneText(keyOf("011"), "c"))
		r.proves(right, keyA, keyZ, pairText(pairText(loneText(keyOf("00"), "a"), leaves), loneText(keyOf("1"), "d")))
		r.proves(right, keyOf("010"), keyOf("0111"), pairText(pairText(sumText(cut(4, leftOf(low))), leaves), sumText(cut(4, rightOf(right)))))
	}
}

// P14.2: a leaf's key begins with the bits of its place, at every height.
func TestLeafOfAnotherPlace(t *testing.T) {
	path := bitsOf(keyM)
	for _, bits := range []int{1, 2, 8, 9, 100, 255, 256} {
		for _, bit := range []int{0, 1, bits - 1, bits, bits + 1, 255} {
			if bit > 255 {
				continue
			}
			r := begun(t, fmt.Sprintf("P14.2: a leaf at %d bits, bit %d turned", bits, bit), 900, 4)
			leaf, beside := r.leaf(flipped(keyM, bit), "x"), r.leaf(flipped(keyM, bits-1), "y")
			low := 0
			if path[bits-1] == '0' {
				low = r.branch(leaf, beside, 1, 1)
			} else {
				low = r.branch(beside, leaf, 1, 1)
			}
			root := r.chain(low, 2, path[:bits-1], 0)
			for _, at := range [][2]api.Key{{keyM, keyM}, {keyA, keyZ}, {flipped(keyM, bits-1), flipped(keyM, bits-1)}} {
				x := r.asRead(root, at[0], at[1])
				if wrong := bit < bits && at[0] != flipped(keyM, bits-1); x.broken != wrong {
					t.Errorf("%s: refused %t, want %t", r.promise, x.broken, wrong)
				}
			}
		}
	}
}

// P14.2: a branch at height 0 does not stand, a leaf there does; a branch at height 1 is the lowest.
func TestBranchAtTheEnd(t *testing.T) {
	r := begun(t, "P14.2: a branch at height 0", 2500, 4)
	a, c := r.leaf(keyA, "a"), r.leaf(keyC, "c")
	low := r.branch(a, c, 1, 1)
	right := r.chain(low, 2, strings.Repeat("0", 255), 0)
	nones := make([]byte, 255)
	pairs := []byte(strings.Repeat("\x03", 255))
	around := func(inner []byte) []byte { return append(append(pairs[:255:255], inner...), nones...) }
	r.proves(right, keyA, keyA, around(pairText(loneText(keyA, "a"), sumText(cut(4, rightOf(low))))))
	r.proves(right, keyC, keyZ, around(pairText(sumText(cut(4, leftOf(low))), loneText(keyC, "c"))))
	r.proves(right, keyA, keyC, around(pairText(loneText(keyA, "a"), loneText(keyC, "c"))))
	wrong := r.chain(low, 2, strings.Repeat("0", 256), 0)
	r.refuses(wrong, keyA, keyA, api.ErrCorrupt)
	r.refuses(wrong, keyA, keyZ, api.ErrCorrupt)
	// Where that end is outside it is taken as it is stated.
	beneath := low + 255 + 1
	r.proves(wrong, keyC, keyC, around(pairText(sumText(cut(4, leftOf(beneath))), noneText())))
	for _, low := range []int{r.branch(0, c, 0, 2), r.branch(a, 0, 2, 0)} {
		wrong = r.chain(low, 2, strings.Repeat("0", 256), 0)
		r.refuses(wrong, keyA, keyA, api.ErrCorrupt)
		r.asRead(wrong, keyC, keyC)
		wrong = r.chain(low, 2, strings.Repeat("1", 256), 0)
		r.refuses(wrong, keyZ, keyZ, api.ErrCorrupt)
	}
}

// P14.2: a child's number is below its branch's: one that would stand but for its number does not.
func TestChildAboveItsBranch(t *testing.T) {
	r := begun(t, "P14.2: a child above its branch", 60, 4)
	b := r.leaf(keyB, "b")
	root := r.branch(r.s.Next()+1, b, 1, 1)
	r.leaf(keyA, "a")
	r.refuses(root, keyA, keyA, api.ErrCorrupt)
	r.proves(root, keyB, keyB, pairText(sumText(cut(4, leftOf(root))), loneText(keyB, "b")))
	top := r.branch(root+1, b, 1, 1)
	r.proves(top, keyA, keyZ, pairText(loneText(keyA, "a"), loneText(keyB, "b")))
	// A branch that is its own child: by its count, too, it would stand. It is not loaded again.
	self := r.branch(r.s.Next(), 0, 2, 0)
	r.refuses(self, keyA, keyA, api.ErrCorrupt)
	r.asRead(self, keyA, keyZ)
	r.proves(self, keyB, keyZ, pairText(sumText(cut(4, leftOf(self))), noneText()))
	// Two that are each other's.
	one := r.branch(0, r.s.Next()+1, 0, 2)
	two := r.branch(0, one, 0, 2)
	for _, root := range []int{one, two} {
		r.refuses(root, keyZ, keyZ, api.ErrCorrupt)
		r.asRead(root, keyA, keyZ)
		r.proves(root, keyA, keyC, pairText(noneText(), sumText(cut(4, rightOf(root)))))
	}
}

// P14.2: what an outside child's digest is: as it is stated, cut to the width; that of an empty subtree of its own height is none.
func TestStatedDigests(t *testing.T) {
	for _, w := range []int{1, 4, 31, 32} {
		r := begun(t, fmt.Sprintf("P14.2: width %d", w), 200, w)
		a, b := r.leaf(keyA, "a"), r.leaf(keyB, "b")
		low := r.branch(r.leaf(keyOf("00"), "c"), r.leaf(keyOf("01"), "d"), 1, 1)
		empty := emptySum(w, 255)
		beyond := empty
		beyond[31] ^= 1
		first := empty
		first[0] ^= 128
		sums := []api.Digest{{}, empty, beyond, first, {31: 1}, sumOf(1), emptySum(w, 254), emptySum(w, 256), emptySum(w, 0), emptySum(32, 255)}
		for _, d := range sums {
			text := sumText(cut(w, d))
			if cut(w, d) == empty {
				text = noneText()
			}
			want := pairText(loneText(keyA, "a"), text)
			if len(text) == 1 {
				want = loneText(keyA, "a")
			}
			root := r.stating(a, b, 1, 1, sumOf(7), d)
			r.proves(root, keyA, keyA, want)
			r.proves(root, keyC, keyC, want)
			r.asRead(root, keyA, keyZ)
			// On the left of nothing.
			root = r.stating(low, 0, 2, 0, d, api.Digest{})
			want = pairText(text, noneText())
			if len(text) == 1 {
				want = noneText()
			}
			r.proves(root, keyB, keyZ, want)
			// Beneath a touched branch the stated digest says nothing.
			r.proves(root, keyA, keyB, pairText(pairText(loneText(keyOf("00"), "c"), loneText(keyOf("01"), "d")), noneText()))
		}
	}
}

// R1: every way down ends, also where branches lead to themselves or to one another, or one page stands in many places.
func TestEveryWayEnds(t *testing.T) {
	r := begun(t, "R1", 400, 4)
	a, b := r.leaf(keyA, "a"), r.leaf(keyB, "b")
	for _, root := range []int{r.branch(r.s.Next(), b, 1, 1), r.branch(r.s.Next()+1, b, 2, 1), r.branch(r.s.Next()-1, b, 3, 1), r.branch(a, r.s.Next(), 1, 1), r.branch(4095, b, 1, 1)} {
		for _, at := range spansOf() {
			r.asRead(root, at[0], at[1])
		}
	}
	page, count := r.branch(a, b, 1, 1), 2
	for range 280 {
		page = r.branch(page, 0, 2, 0)
	}
	r.refuses(page, keyA, keyZ, api.ErrCorrupt)
	one, two := r.branch(a, b, 1, 1), r.branch(b, a, 1, 1)
	for range 20 {
		if count *= 2; count > 2048 {
			break
		}
		one, two = r.branch(one, two, count/2, count/2), r.branch(two, one, count/2, count/2)
		r.asRead(one, keyA, keyZ)
		r.asRead(two, keyB, keyB)
	}
}

// P14.2: of forged trees, too, nothing is staged, written or synced.
func TestForgedTreesAreLeft(t *testing.T) {
	r := begun(t, "forged", 300, 4)
	wrongs := r.wrongs()
	right := r.leaf(keyOf("11"), "r")
	r.flush()
	for _, page := range wrongs {
		root := r.branch(page, right, 1, 1)
		r.quiet(func() {
			span.Prove(r.s, root, keyA, keyZ)
			span.Prove(r.s, root, keyB, keyZ)
		})
	}
}

// forger stages trees that are not quite right.
type forger struct {
	*rig
	*rand.Rand
	parts map[string][][2]int // by row: the pages that were staged there, with their counts
	keys  []api.Key           // of the leaves
}

// one tells true once in n times.
func (f *forger) one(n int) bool { return f.IntN(n) == 0 }

// tree stages what stands under a row, a few levels deep, or takes what stands there in another tree; it tells its page and count, and seldom lies.
func (f *forger) tree(row string, levels int) (page, count int) {
	f.Helper()
	if had := f.parts[row]; len(had) > 0 && f.one(3) {
		part := pick(f.Rand, had...)
		return part[0], part[1]
	}
	defer func() { f.parts[row] = append(f.parts[row], [2]int{page, count}) }()
	switch {
	case f.one(6):
		return 0, 0
	case levels == 0 || f.one(4):
		if f.one(20) {
			row = fmt.Sprintf("%06b", f.IntN(64))
		}
		k := keyOf(row + fmt.Sprintf("%03b", f.IntN(8)))
		f.keys = append(f.keys, k)
		return f.leaf(k, pick(f.Rand, "", "a", "b")), 1
	case f.one(40):
		return f.forge(f.IntN(3)+1, text(f.IntN(99), f.IntN(170))), 1 + f.IntN(2)
	}
	left, lefts := f.tree(row+"0", levels-1)
	right, rights := f.tree(row+"1", levels-1)
	left, lefts = f.lie(left, lefts)
	right, rights = f.lie(right, rights)
	if lefts+rights < 2 && !f.one(20) {
		return max(left, right), lefts + rights
	}
	return f.stated(len(row), left, right, lefts, rights), lefts + rights
}

// stated stages a branch whose digests are made up, those of empty subtrees among them.
func (f *forger) stated(bits, left, right, lefts, rights int) int {
	f.Helper()
	sum := func(page int) api.Digest {
		if page == 0 {
			return api.Digest{}
		}
		return pick(f.Rand, sumOf(page), emptySum(f.width(), 255-bits), emptySum(f.width(), 256-bits), api.Digest{})
	}
	return f.stating(left, right, lefts, rights, sum(left), sum(right))
}

// lie tells a child as it is, or now and then another one.
func (f *forger) lie(page, count int) (int, int) {
	if page == 0 || !f.one(30) {
		return page, count
	}
	switch f.IntN(5) {
	case 0:
		return f.s.Next() + f.IntN(6) - 2, count
	case 1:
		return 2 + f.IntN(f.s.Next()), count
	case 2:
		return page, 4090 + f.IntN(6)
	}
	return page, max(count+f.IntN(4)-1, 0)
}

// P14.1, P14.2: forged trees are told or refused as the promises say.
func TestDrawnForgeries(t *testing.T) {
	told, wrong := 0, 0
	for seed := range uint64(250) {
		rnd := rand.New(rand.NewPCG(seed, 14))
		r := begun(t, fmt.Sprintf("forged, seed %d", seed), 900, pick(rnd, 1, 2, 4, 32))
		f := &forger{r, rnd, map[string][][2]int{}, []api.Key{keyA}}
		for range 5 {
			root, _ := f.tree("", 5)
			if root >= r.s.Next() {
				continue
			}
			for range 8 {
				lo := pick(rnd, keyOf(fmt.Sprintf("%08b", f.IntN(256))), pick(rnd, f.keys...))
				hi := pick(rnd, keyOf(fmt.Sprintf("%08b", f.IntN(256))), pick(rnd, f.keys...), lo)
				if bitsOf(lo) > bitsOf(hi) {
					lo, hi = hi, lo
				}
				if r.asRead(root, lo, hi).broken {
					wrong++
				} else {
					told++
				}
			}
		}
	}
	if told < 2000 || wrong < 1000 {
		t.Errorf("%d spans were told, %d refused: the trees say too little", told, wrong)
	}
}
