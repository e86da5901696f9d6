package tree_test

import (
	"bytes"
	"slices"
	"strings"

	"ledger/api"
	"ledger/tree"
)

// What follows reads the promises P10.3 to P10.13 word for word, by rows of letters and lists of what stands under them: it is slow, and its shape is not the program's.

// saying is what a branch says of one child; of the root it is its page alone.
type saying struct {
	page, count int
	sum         api.Digest
}

// item is one key, or a part of the old tree that is not looked at, in the map behind the changes.
type item struct {
	row   string // the whole path of a key; of a part that is not looked at its row
	place string // the row under which it stood in the old tree
	saying
	val   []byte
	fresh bool // a leaf that must be staged
}

// reading is one call's look at a tree.
type reading struct {
	*rig
	looked map[string]api.Node // by row
	said   map[string]saying   // by row: of the root and of all children of what was looked at
	broken bool
	acting []string // the paths of the changes that take effect
	items  []item
	next   int
	staged []api.Node
}

// readPath looks at the path of a key (P10.3, P10.4) and tells the leaf at its end, if there is one.
func (x *reading) readPath(root int, k api.Key) (leaf api.Node) {
	path, above := bitsOf(k), highest
	x.said[""] = saying{page: root}
	for bits := 0; ; bits++ {
		row := path[:bits]
		what := x.said[row]
		if what.page == 0 {
			return api.Node{}
		}
		n, is := x.read(what.page)
		if !is || what.page >= above {
			x.broken = true
			return api.Node{}
		}
		x.looked[row] = n
		if n.Kind == api.KindLeaf {
			if bits > 0 && what.count != 1 || !strings.HasPrefix(bitsOf(n.Key), row) {
				x.broken = true
			}
			return n
		}
		if bits > 0 && what.count != n.LeftCount+n.RightCount || bits == 256 {
			x.broken = true
			return api.Node{}
		}
		x.said[row+"0"] = saying{n.Left, n.LeftCount, n.LeftSum}
		x.said[row+"1"] = saying{n.Right, n.RightCount, n.RightSum}
		above = what.page
	}
}

// readList looks at the paths of all keys in a list, and works out what stands behind the changes.
func (r *rig) readList(root int, cs []api.Change) *reading {
	x := &reading{rig: r, looked: map[string]api.Node{}, said: map[string]saying{"": {page: root}}, next: r.s.Next()}
	gone := map[string]int{}
	for _, c := range cs {
		leaf := x.readPath(root, c.Key)
		has := leaf.Kind == api.KindLeaf && leaf.Key == c.Key
		if c.Del && !has || !c.Del && has && bytes.Equal(leaf.Val, c.Val) {
			continue
		}
		path := bitsOf(c.Key)
		x.acting = append(x.acting, path)
		gone[path] = 1
		if !c.Del {
			x.items = append(x.items, item{row: path, saying: saying{count: 1}, val: c.Val, fresh: true})
		}
	}
	for row, what := range x.said {
		n, looked := x.looked[row]
		if what.page != 0 && !looked {
			x.items = append(x.items, item{row: row, place: row, saying: what})
		}
		if looked && n.Kind == api.KindLeaf && gone[bitsOf(n.Key)] == 0 {
			what.count = 1
			x.items = append(x.items, item{row: bitsOf(n.Key), place: row, saying: what, val: n.Val})
		}
	}
	return x
}

// acts tells whether a change that takes effect lies under a row.
func (x *reading) acts(row string) bool {
	return slices.ContainsFunc(x.acting, func(path string) bool { return strings.HasPrefix(path, row) })
}

// under tells the items under a row, and how many keys they are.
func (x *reading) under(row string) (some []item, keys int) {
	for _, i := range x.items {
		if strings.HasPrefix(i.row, row) {
			some = append(some, i)
			keys += i.count
		}
	}
	return some, keys
}

// build is P10.9 to P10.11: what stands under a row behind the changes; it lays what must be staged behind x.staged.
func (x *reading) build(row string) saying {
	said, has := x.said[row]
	if has && !x.acts(row) {
		return said
	}
	some, keys := x.under(row)
	if keys == 0 {
		return saying{}
	}
	if keys == 1 {
		return x.lone(some[0], row)
	}
	left, right := x.build(row+"0"), x.build(row+"1")
	if left.count+right.count > 4096 || left.page == right.page {
		x.broken = true
	}
	x.staged = append(x.staged, api.Node{
		Kind: api.KindBranch, Left: left.page, Right: right.page, LeftCount: left.count, RightCount: right.count,
		LeftSum: left.sum, RightSum: right.sum,
	})
	below := 255 - len(row)
	for _, child := range []*saying{&left, &right} {
		if child.page == 0 {
			child.sum = emptySum(x.width(), below)
		}
	}
	return saying{x.next + len(x.staged) - 1, keys, pairSum(x.width(), left.sum, right.sum)}
}

// lone tells what one key is under a row.
func (x *reading) lone(i item, row string) saying {
	w := x.width()
	switch {
	case i.fresh:
		x.staged = append(x.staged, api.Node{Kind: api.KindLeaf, Key: keyOf(i.row), Val: i.val})
		return saying{x.next + len(x.staged) - 1, 1, climbed(w, i.row, leafSum(w, keyOf(i.row), i.val), len(row))}
	case i.place == row:
		return i.saying
	case len(i.place) > len(row):
		return saying{i.page, 1, climbed(w, i.place, i.sum, len(row))}
	}
	return saying{i.page, 1, climbed(w, i.row, leafSum(w, keyOf(i.row), i.val), len(row))}
}

// asRead asks of Cost and Update on a right list that they do what the promises say, to the last byte, and tells what Update answered.
func (r *rig) asRead(root int, cs ...api.Change) (int, api.Errno) {
	r.Helper()
	x := r.readList(root, cs)
	var want saying
	if !x.broken {
		want = x.build("")
	}
	first := r.s.Next()
	switch {
	case x.broken:
		r.unstaged(func() { r.refuses(root, api.ErrCorrupt, cs...) })
		return 0, api.ErrCorrupt
	case first+len(x.staged) > r.s.Pages():
		r.unstaged(func() {
			r.costs(root, len(x.staged), cs...)
			r.updatesNot(root, api.ErrFull, cs...)
		})
		return 0, api.ErrFull
	}
	r.unwritten(func() { r.updates(root, want.page, len(x.staged), cs...) })
	if r.s.Next() != first+len(x.staged) {
		return want.page, api.OK // it is told above; page by page it would be told at length
	}
	for i, n := range x.staged {
		r.holds(first+i, n)
	}
	return want.page, api.OK
}

// asReadGet asks of Get, Sum and Count that they do what the promises say.
func (r *rig) asReadGet(root int, k api.Key) {
	r.Helper()
	x := &reading{rig: r, looked: map[string]api.Node{}, said: map[string]saying{}}
	leaf := x.readPath(root, k)
	r.unstaged(func() {
		val, found, e := tree.Get(r.s, root, k)
		switch {
		case x.broken:
			r.getsNot(root, k, api.ErrCorrupt)
		case leaf.Kind == api.KindLeaf && leaf.Key == k:
			if !bytes.Equal(val, leaf.Val) || !found || e != api.OK {
				r.Errorf("%s: Get(%d, %x) = %q, %t, %v, want %q", r.promise, root, k, val, found, e, leaf.Val)
			}
		default:
			r.getsNot(root, k, api.OK)
		}
		r.asReadRoot(root)
	})
}

// asReadRoot asks of Sum and Count that they tell what the root's page says.
func (r *rig) asReadRoot(root int) {
	r.Helper()
	w := r.width()
	n, is := r.read(root)
	switch {
	case root == 0:
		r.sums(0, emptySum(w, 256))
		r.counts(0, 0)
	case !is:
		r.tellsNot(root, api.ErrCorrupt)
	case n.Kind == api.KindLeaf:
		r.sums(root, loneSum(w, n.Key, string(n.Val), 256))
		r.counts(root, 1)
	default:
		l, r1 := n.LeftSum, n.RightSum
		if n.Left == 0 {
			l = emptySum(w, 255)
		}
		if n.Right == 0 {
			r1 = emptySum(w, 255)
		}
		r.sums(root, pairSum(w, l, r1))
		r.counts(root, n.LeftCount+n.RightCount)
	}
}
