package span

import (
	"ledger/api"
	"ledger/digest"
	"ledger/node"
	"ledger/store"
)

// firstPage is the lowest number that a page may have: the ones below it are the superblocks' slots.
const firstPage = 2

// subtree is what is known of a place's page from above, ahead of a look at it.
type subtree struct {
	place
	page  int        // 0 where there is none
	count int        // how many keys its branch states for it; of a root 0, as nobody states it
	above int        // the page of its branch, which must be the higher number
	sum   api.Digest // as its branch states it: also what lies behind the width
}

// ready tells whether a call may look at this tree at all.
func ready(s *store.Store, root int) api.Errno {
	if s == nil {
		return api.ErrArg
	}
	if e := s.Live(); e != api.OK {
		return e
	}
	if root != 0 && (root < firstPage || root >= s.Next()) {
		return api.ErrPage
	}
	return api.OK
}

// textOfTree tells the text of a tree's root for a span, and gives up where a page does not stand.
func textOfTree(s *store.Store, root int, b bounds) text {
	sc := scaleOf(s.Super().Width)
	var down func(t subtree) text
	half := func(t subtree) part {
		d := sc.stated(t)
		if !b.touches(t.place) {
			return part{sc.outer(d, t.height()), d}
		}
		return part{down(t), d}
	}
	down = func(t subtree) text {
		if t.page == 0 {
			return none{}
		}
		n := look(s, t)
		if n.Kind == api.KindLeaf {
			return lone{Key: n.Key, Val: n.Val}
		}
		left, right := t.children(n)
		return joined(half(left), half(right))
	}
	// Of a root no branch states a page above: any number is below this one.
	return down(subtree{page: root, above: api.MaxPages})
}

// stated tells the digest that a branch gives a child.
func (s scale) stated(t subtree) api.Digest {
	if t.page == 0 {
		return s.empty[t.height()]
	}
	return digest.Cut(t.sum, s.width)
}

// look tells the node of a page, and gives up where it does not stand in its place.
func look(s *store.Store, t subtree) api.Node {
	// Numbers that only fall are what makes every way down end: this is asked ahead of the page itself.
	if t.page >= t.above {
		panic(wrong{api.ErrCorrupt})
	}
	kind, load, e := s.Load(t.page)
	if e != api.OK {
		panic(wrong{api.ErrCorrupt})
	}
	n, e := node.Decode(kind, load)
	if e != api.OK || !t.fits(n) {
		panic(wrong{api.ErrCorrupt})
	}
	return n
}

// fits tells whether a node may stand there.
func (t subtree) fits(n api.Node) bool {
	if t.count != 0 && t.count != keysOf(n) {
		return false
	}
	if n.Kind == api.KindBranch {
		return t.height() > 0
	}
	return t.holds(n.Key)
}

// keysOf tells how many keys a node says are there.
func keysOf(n api.Node) int {
	if n.Kind == api.KindLeaf {
		return 1
	}
	return n.LeftCount + n.RightCount
}

// children tells what a branch states of its two children.
func (t subtree) children(n api.Node) (left, right subtree) {
	l, r := t.halves()
	left = subtree{place: l, page: n.Left, count: n.LeftCount, above: t.page, sum: n.LeftSum}
	right = subtree{place: r, page: n.Right, count: n.RightCount, above: t.page, sum: n.RightSum}
	return left, right
}
