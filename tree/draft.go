package tree

import (
	"bytes"
	"sort"

	"ledger/api"
	"ledger/batch"
	"ledger/node"
	"ledger/store"
)

// draft is what an update would stage. It is worked out whole, but for the digests, ahead of the first page that is staged: so a call that refuses stages nothing, and one that asks for the cost alone hashes little.
type draft struct {
	store       *store.Store
	width       int
	first, cost int // the number that the first sheet gets, and how many there are
	root        int
	sheets      []sheet      // those for which the disk has pages: a longer draft is never staged
	sums        []api.Digest // of the sheets that are staged
	empties     []api.Digest // of the empty subtrees, by their heights, as far as one was asked for
}

// sheet is a page to be staged: a leaf; or a branch that still lacks its children's digests, and these children.
type sheet struct {
	node        api.Node
	height      int
	left, right part
}

// renew tells what stands in a part's place behind the changes under its row, and whether one of them takes effect.
func (d *draft) renew(old part, cs []api.Change) (part, bool) {
	if len(cs) == 0 {
		return old, false
	}
	var n api.Node
	if old.page != 0 {
		n = look(d.store, old)
	}
	if n.Kind == api.KindBranch {
		return d.renewBranch(old, n, cs)
	}
	cs = effective(cs, n)
	if len(cs) == 0 {
		return old, false
	}
	return d.grow(d.kept(old.page, n), cs, old.height), true
}

// renewBranch is renew where a branch stands in the part's place.
func (d *draft) renewBranch(old part, n api.Node, cs []api.Change) (part, bool) {
	left, right := old.children(n)
	first, second := cut(cs, old.depth())
	left, changed := d.renew(left, first)
	right, too := d.renew(right, second)
	if !changed && !too {
		return old, false
	}
	return d.join(left, right, old.height), true
}

// cut parts sorted changes that share their first depth bits by the next one.
func cut(cs []api.Change, depth int) (left, right []api.Change) {
	i := sort.Search(len(cs), func(i int) bool { return batch.Bit(cs[i].Key, depth) == 1 })
	return cs[:i], cs[i:]
}

// effective tells the changes that take effect where the old tree has this one leaf, or, with the zero Node, nothing.
func effective(cs []api.Change, leaf api.Node) []api.Change {
	var some []api.Change
	for _, c := range cs {
		has := leaf.Kind == api.KindLeaf && leaf.Key == c.Key
		if c.Del && has || !c.Del && !(has && bytes.Equal(leaf.Val, c.Val)) {
			some = append(some, c)
		}
	}
	return some
}

// kept tells an old leaf as a part that may stand under any longer row: its digest is the one of height 0.
func (d *draft) kept(page int, leaf api.Node) part {
	if leaf.Kind != api.KindLeaf {
		return part{}
	}
	return part{page: page, count: 1, row: leaf.Key, sum: node.Leaf(d.width, leaf.Key, leaf.Val)}
}

// grow tells what stands under a row of this height behind changes that all take effect, where the old tree has one leaf there or nothing.
func (d *draft) grow(leaf part, cs []api.Change, height int) part {
	if len(cs) == 0 {
		return leaf
	}
	if len(cs) == 1 && (leaf.page == 0 || leaf.row == cs[0].Key) {
		return d.change(cs[0])
	}
	var left, right part
	depth := api.Height - height
	if batch.Bit(leaf.row, depth) == 0 {
		left = leaf
	} else {
		right = leaf
	}
	first, second := cut(cs, depth)
	left = d.grow(left, first, height-1)
	right = d.grow(right, second, height-1)
	return d.join(left, right, height)
}

// change tells what a change that takes effect leaves where its key is alone.
func (d *draft) change(c api.Change) part {
	if c.Del {
		return part{}
	}
	page := d.add(sheet{node: api.Node{Kind: api.KindLeaf, Key: c.Key, Val: c.Val}})
	return part{page: page, count: 1, row: c.Key, fresh: true}
}

// join tells what two children make under a row of this height in which something has changed: a lone leaf is handed on as it stands, wherever that is.
func (d *draft) join(left, right part, height int) part {
	keys := left.count + right.count
	if keys < 2 && left.count == 0 {
		return right
	}
	if keys < 2 {
		return left
	}
	if keys > api.MaxPages || left.page == right.page {
		panic(broken{})
	}
	n := api.Node{
		Kind: api.KindBranch, Left: left.page, Right: right.page,
		LeftCount: left.count, RightCount: right.count,
	}
	page := d.add(sheet{n, height, left, right})
	return part{page: page, count: keys, height: height, fresh: true}
}

// add lays a sheet behind the others and tells the number that its page gets.
func (d *draft) add(x sheet) int {
	page := d.first + d.cost
	d.cost++
	if page < d.store.Pages() {
		d.sheets = append(d.sheets, x)
	}
	return page
}

// stage stages all sheets in their order, or none.
func (d *draft) stage() api.Errno {
	for _, x := range d.sheets {
		load, e := node.Encode(d.finished(x))
		if e == api.OK {
			_, e = d.store.Stage(x.node.Kind, load)
		}
		if e != api.OK {
			d.store.Rewind(d.first)
			return e
		}
	}
	return api.OK
}

// finished tells a sheet's node with all its digests, and notes its own for the branch above it.
func (d *draft) finished(x sheet) api.Node {
	n := x.node
	if n.Kind == api.KindLeaf {
		d.sums = append(d.sums, node.Leaf(d.width, n.Key, n.Val))
		return n
	}
	left, right := d.sumOf(x.left, x.height-1), d.sumOf(x.right, x.height-1)
	d.sums = append(d.sums, node.Branch(d.width, left, right))
	if n.Left != 0 {
		n.LeftSum = left
	}
	if n.Right != 0 {
		n.RightSum = right
	}
	return n
}

// sumOf tells the digest of a child at the height at which it stands now.
func (d *draft) sumOf(p part, height int) api.Digest {
	if p.page == 0 {
		return d.empty(height)
	}
	if p.fresh {
		p.sum = d.sums[p.page-d.first]
	}
	if p.height < height {
		return node.Climb(d.width, p.row, p.height, p.sum, height)
	}
	return p.sum
}

// empty tells the digest of an empty subtree. They are noted for the call, as each is made out of the one below it and a long path asks for one at every height.
func (d *draft) empty(height int) api.Digest {
	if len(d.empties) == 0 {
		d.empties = append(d.empties, node.Empty(d.width, 0))
	}
	for len(d.empties) <= height {
		below := d.empties[len(d.empties)-1]
		d.empties = append(d.empties, node.Branch(d.width, below, below))
	}
	return d.empties[height]
}
