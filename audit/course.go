package audit

import (
	"ledger/api"
	"ledger/batch"
	"ledger/node"
)

// course goes through the versions of a book of which all pages stand alone, one behind the other. A finding whose Why is OK is none.
type course struct {
	book    *book
	empties []api.Digest // of the empty subtrees, by their heights
	sums    map[spot]api.Digest

	ahead holding // of the version ahead of the one that is gone through
	root  int     // the root's page of the version ahead

	number int    // of the record whose version is gone through
	next   int    // the number that the next new page must have
	fresh  []link // what leads to the new pages that were gone through
	kept   []int  // by an old page's number: the last record whose version was found to keep it
}

// link is what one page states of another: where that stands, how many keys it has, and its digest.
type link struct {
	from, to int
	at       row
	count    int
	sum      api.Digest
}

// spot is a page at a height at which its digest is asked for.
type spot struct {
	page, height int
}

// courseOf makes the course that stands ahead of a book's first version.
func courseOf(b *book) *course {
	w := b.super.Width
	empties := []api.Digest{node.Empty(w, 0)}
	for h := range api.Height {
		empties = append(empties, node.Branch(w, empties[h], empties[h]))
	}
	return &course{
		book: b, empties: empties, sums: map[spot]api.Digest{},
		ahead: nothing(), kept: make([]int, b.super.Mark),
	}
}

// run goes through all versions, and looks at what lies behind them. It gives up at the first thing that is wrong, and tells it.
func (c *course) run(show func(number int, h holding)) api.Finding {
	show(0, c.ahead)
	for number := 1; number < len(c.book.ends); number++ {
		if f := c.through(number); f.Why != api.OK {
			return f
		}
		show(number, c.ahead)
	}
	return c.book.behind()
}

// behind tells what is wrong behind the last record.
func (b *book) behind() api.Finding {
	last := b.ends[len(b.ends)-1]
	if last+1 < b.super.Mark {
		return api.Finding{Page: last + 1, Why: api.ErrOrder}
	}
	if last >= firstPage && b.super.Head != last {
		return api.Finding{Page: last, Why: api.ErrChain}
	}
	return api.Finding{}
}

// through goes through the version of a record.
func (c *course) through(number int) api.Finding {
	at := c.book.ends[number]
	r := c.book.sheets[at].record
	if r != c.book.chained(number, r) {
		return api.Finding{Page: at, Why: api.ErrChain}
	}
	c.number, c.next, c.fresh = number, c.book.ends[number-1]+1, nil
	if r.Root == 0 && r.Sum != c.empties[api.Height] {
		return api.Finding{Page: at, Why: api.ErrDigest}
	}
	if r.Root != 0 {
		if f := c.follow(link{from: at, to: r.Root, count: r.Count, sum: r.Sum}); f.Why != api.OK {
			return f
		}
	}
	if c.next < at {
		return api.Finding{Page: c.next, Why: api.ErrOrder}
	}
	c.pass(r.Root)
	return api.Finding{}
}

// chained tells a record with the First, the Version and the links that it must have at its number.
func (b *book) chained(number int, r api.Record) api.Record {
	r.First = b.sheets[b.ends[1]].record.First
	// Where First is 0 that version has no record: the first one is version 1's.
	r.Version = max(r.First, 1) + number - 1
	r.Prev = b.recordPage(number - 1)
	r.Skip = b.recordPage(number & (number - 1))
	return r
}

// recordPage tells the page of the record of a number, 0 of the number 0, which is nobody's.
func (b *book) recordPage(number int) int {
	if number == 0 {
		return 0
	}
	return b.ends[number]
}

// follow goes through the page that a link leads to.
func (c *course) follow(l link) api.Finding {
	if !c.leads(l) {
		return api.Finding{Page: l.from, Why: api.ErrLink}
	}
	n := c.book.sheets[l.to].node
	isNew := l.to > c.book.ends[c.number-1]
	if !isNew && c.ahead.page(n, l.at) != l.to {
		return api.Finding{Page: l.from, Why: api.ErrOrder}
	}
	if isNew {
		if f := c.followNew(l, n); f.Why != api.OK {
			return f
		}
	}
	c.kept[l.to] = c.number
	if c.sumOf(l.to, l.at.height()) != l.sum {
		return api.Finding{Page: l.from, Why: api.ErrDigest}
	}
	return api.Finding{}
}

// leads tells whether a link leads to a node that may stand where the link says, and that has as many keys. Each one leads to a lower page: so every way ends.
func (c *course) leads(l link) bool {
	if l.to >= l.from {
		return false
	}
	n := c.book.sheets[l.to].node
	switch n.Kind {
	case api.KindLeaf:
		return l.count == 1 && l.at.begins(n.Key)
	case api.KindBranch:
		return l.count == n.LeftCount+n.RightCount && l.at.height() > 0
	}
	return false
}

// followNew goes through a new page, and ahead of it through what lies beneath.
func (c *course) followNew(l link, n api.Node) api.Finding {
	for _, child := range l.children(n) {
		if f := c.follow(child); f.Why != api.OK {
			return f
		}
	}
	old := c.ahead.page(n, l.at)
	if l.to != c.next || old != 0 && alike(n, c.book.sheets[old].node) {
		return api.Finding{Page: l.to, Why: api.ErrOrder}
	}
	c.next++
	c.fresh = append(c.fresh, l)
	return api.Finding{}
}

// children tells the links of the branch to which l leads; a leaf has none.
func (l link) children(n api.Node) []link {
	var all []link
	if n.Left != 0 {
		all = append(all, link{l.to, n.Left, l.at.then(0), n.LeftCount, n.LeftSum})
	}
	if n.Right != 0 {
		all = append(all, link{l.to, n.Right, l.at.then(1), n.RightCount, n.RightSum})
	}
	return all
}

// sumOf tells the digest of a page at a height. They are noted: to climb is slow, and one version behind the other states the same leaf.
func (c *course) sumOf(page, height int) api.Digest {
	at := spot{page, height}
	sum, known := c.sums[at]
	if !known {
		sum = c.workOut(c.book.sheets[page].node, height)
		c.sums[at] = sum
	}
	return sum
}

// workOut tells the digest of a node at a height.
func (c *course) workOut(n api.Node, height int) api.Digest {
	w := c.book.super.Width
	if n.Kind == api.KindLeaf {
		return c.climbed(n.Key, node.Leaf(w, n.Key, n.Val), height)
	}
	left, right := n.LeftSum, n.RightSum
	if n.Left == 0 {
		left = c.empties[height-1]
	}
	if n.Right == 0 {
		right = c.empties[height-1]
	}
	return node.Branch(w, left, right)
}

// climbed tells what node.Climb does from height 0 on, with the empty neighbours that are at hand: half of what it would hash.
func (c *course) climbed(k api.Key, sum api.Digest, height int) api.Digest {
	w := c.book.super.Width
	for h := range height {
		if batch.Bit(k, api.Height-1-h) == 0 {
			sum = node.Branch(w, sum, c.empties[h])
		} else {
			sum = node.Branch(w, c.empties[h], sum)
		}
	}
	return sum
}

// pass makes the version that was gone through the one ahead.
func (c *course) pass(root int) {
	c.leave(c.root, row{})
	for _, l := range c.fresh {
		c.ahead.put(l.to, c.book.sheets[l.to].node, l.at)
	}
	c.root = root
}

// leave takes out of the version ahead what the next one does not keep, from a page on downwards. What lies beneath a page that is kept is kept too: so a page is taken out once and for all, and many versions cost no more than their pages.
func (c *course) leave(page int, at row) {
	if page == 0 || c.kept[page] == c.number {
		return
	}
	n := c.book.sheets[page].node
	c.ahead.drop(n, at)
	for _, child := range (link{to: page, at: at}).children(n) {
		c.leave(child.to, child.at)
	}
}
