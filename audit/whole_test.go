package audit_test

import (
	"fmt"
	"slices"
	"testing"

	"ledger/api"
	"ledger/node"
)

// fault is one forgery of the story, and where what is found.
type fault struct {
	name string
	turn func(f *forgery)
	want api.Finding
}

// tell goes through faults, each in a copy of an image that is clean.
func tell(t *testing.T, promise string, image []byte, faults []fault) {
	t.Helper()
	finds(t, promise+": as it was laid", image)
	for _, x := range faults {
		f := forged(t, image)
		x.turn(f)
		finds(t, promise+": "+x.name, f.image, x.want)
		asRead(t, promise+": "+x.name, f.image)
	}
}

// inRecord makes the turn of a fault in a record.
func inRecord(page int, turn func(r *api.Record)) func(f *forgery) {
	return func(f *forgery) { f.Helper(); f.record(page, turn) }
}

// inNode makes the turn of a fault in a node.
func inNode(page int, turn func(n *api.Node)) func(f *forgery) {
	return func(f *forgery) { f.Helper(); f.node(page, turn) }
}

// both makes one turn of several.
func both(turns ...func(f *forgery)) func(f *forgery) {
	return func(f *forgery) {
		f.Helper()
		for _, turn := range turns {
			turn(f)
		}
	}
}

// emptied makes a record one of the empty map.
func emptied(r *api.Record) { r.Root, r.Count, r.Sum = 0, 0, node.Empty(4, 256) }

// P17.4: a record that does not follow from those ahead of it: its First, Version, Prev and Skip.
func TestChain(t *testing.T) {
	links := func(version, first, prev, skip int) func(r *api.Record) {
		return func(r *api.Record) { r.Version, r.First, r.Prev, r.Skip = version, first, prev, skip }
	}
	tell(t, "P17.4", laid(t, 40, 4, 0, story()...), []fault{
		{"the first is version 2", inRecord(7, links(2, 0, 2, 0)), find(7, api.ErrChain)},
		{"the first is version 3", inRecord(7, links(3, 0, 4, 4)), find(7, api.ErrChain)},
		{"the first is version 6 of 5", inRecord(7, links(6, 5, 4, 0)), find(7, api.ErrChain)},
		{"the first one's First is 1", inRecord(7, links(1, 1, 0, 0)), find(11, api.ErrChain)},
		{"the first one's First is 5", inRecord(7, links(5, 5, 0, 0)), find(11, api.ErrChain)},
		{"First is 1", inRecord(11, links(2, 1, 7, 0)), find(11, api.ErrChain)},
		{"First is 1, the number is right", inRecord(11, links(3, 2, 7, 0)), find(11, api.ErrChain)},
		{"First is 2, the first of its kind", inRecord(11, links(2, 2, 0, 0)), find(11, api.ErrChain)},
		{"the Version is one less", inRecord(11, links(1, 0, 0, 0)), find(11, api.ErrChain)},
		{"the Version is one more", inRecord(11, links(3, 0, 7, 7)), find(11, api.ErrChain)},
		{"the Version is 4: it has no Skip too", inRecord(11, links(4, 0, 7, 0)), find(11, api.ErrChain)},
		{"Prev is a node", inRecord(11, links(2, 0, 6, 0)), find(11, api.ErrChain)},
		{"Prev is itself", inRecord(11, links(2, 0, 11, 0)), find(11, api.ErrChain)},
		{"Prev is a later record", inRecord(11, links(2, 0, 12, 0)), find(11, api.ErrChain)},
		{"Prev is far above", inRecord(11, links(2, 0, 4095, 0)), find(11, api.ErrChain)},
		{"both are one further back", inRecord(12, links(3, 0, 7, 7)), find(12, api.ErrChain)},
		{"the same Version again", inRecord(12, links(2, 0, 11, 0)), find(12, api.ErrChain)},
		{"Skip is the record ahead", inRecord(19, links(6, 0, 18, 12)), find(19, api.ErrChain)},
		{"Skip is the record behind", inRecord(19, links(6, 0, 18, 17)), find(19, api.ErrChain)},
		{"Skip is a node", inRecord(19, links(6, 0, 18, 13)), find(19, api.ErrChain)},
		{"Skip is the first", inRecord(19, links(6, 0, 18, 7)), find(19, api.ErrChain)},
		{"Prev alone is wrong", inRecord(19, links(6, 0, 17, 14)), find(19, api.ErrChain)},
		{"the last one's Version", inRecord(21, links(9, 0, 19, 19)), find(21, api.ErrChain)},
	})
}

// P17.4: ledgers that begin at any version: the first one is First, and the others follow.
func TestChainFromAFirst(t *testing.T) {
	for _, first := range []int{1, 2, 9, 1000, 1<<30 - 6} {
		image := laid(t, 40, 4, first, story()...)
		checks(t, "P17.4", image, api.Report{Width: 4, Pages: 40, Mark: 22, Head: 21, First: first, Last: first + 6, Leaves: 6, Branches: 7, Records: 7})
		f := forged(t, image)
		f.record(14, func(r *api.Record) { r.Version, r.First = 4, 0 })
		finds(t, fmt.Sprintf("P17.4: First %d, then 0", first), f.image, find(14, api.ErrChain))
	}
	f := forged(t, laid(t, 40, 4, 9, story()...))
	f.record(14, func(r *api.Record) { r.Version, r.First = 13, 10 })
	finds(t, "P17.4: First 9, then 10", f.image, find(14, api.ErrChain))
	f.record(14, func(r *api.Record) { r.Version, r.First = 13, 9; r.Skip = 12; r.Prev = 12 })
	finds(t, "P17.4: one version is left out", f.image, find(14, api.ErrChain))
}

// P17.4: the record of the empty map.
func TestEmptyRoots(t *testing.T) {
	image := laid(t, 40, 4, 0, story()...)
	tell(t, "P17.4", image, []fault{
		{"another Sum", inRecord(19, func(r *api.Record) { r.Sum[0] ^= 1 }), find(19, api.ErrDigest)},
		{"a bit behind the width", inRecord(19, func(r *api.Record) { r.Sum[4] = 1 }), find(19, api.ErrDigest)},
		{"no Sum", inRecord(19, func(r *api.Record) { r.Sum = api.Digest{} }), find(19, api.ErrDigest)},
		{"the Sum of another width", inRecord(19, func(r *api.Record) { r.Sum = node.Empty(5, 256) }), find(19, api.ErrDigest)},
		{"the Sum of another height", inRecord(19, func(r *api.Record) { r.Sum = node.Empty(4, 255) }), find(19, api.ErrDigest)},
		{"the Sum of the map ahead", inRecord(7, func(r *api.Record) { r.Root, r.Count = 0, 0 }), find(7, api.ErrDigest)},
		{"pages that nobody needs", inRecord(7, emptied), find(2, api.ErrOrder)},
		{"pages that nobody needs, further on", inRecord(18, emptied), find(15, api.ErrOrder)},
	})
}

// P17.5, P17.7: links that lead where they may not are told at the page that states them.
func TestLinks(t *testing.T) {
	image := laid(t, 40, 4, 0, story()...)
	to := func(page int) func(r *api.Record) { return func(r *api.Record) { r.Root = page } }
	tell(t, "P17.5", image, []fault{
		{"a record's Root is itself", inRecord(11, to(11)), find(11, api.ErrLink)},
		{"a record's Root is the next record", inRecord(11, to(12)), find(11, api.ErrLink)},
		{"a record's Root is a later node", inRecord(11, to(17)), find(11, api.ErrLink)},
		{"a record's Root is behind the mark", inRecord(11, to(22)), find(11, api.ErrLink)},
		{"a record's Root is far behind it", inRecord(11, to(4095)), find(11, api.ErrLink)},
		{"a record's Root is a record", inRecord(11, to(7)), find(11, api.ErrLink)},
		{"a record's Count is less", inRecord(11, func(r *api.Record) { r.Count = 2 }), find(11, api.ErrLink)},
		{"a record's Count is more", inRecord(11, func(r *api.Record) { r.Count = 4 }), find(11, api.ErrLink)},
		{"a lone leaf's Count is 2", inRecord(21, func(r *api.Record) { r.Count = 2 }), find(21, api.ErrLink)},
		{"an old root's Count is another one", inRecord(12, func(r *api.Record) { r.Count = 4096 }), find(12, api.ErrLink)},
		{"a branch's Left is itself", inNode(10, func(n *api.Node) { n.Left = 10 }), find(10, api.ErrLink)},
		{"a branch's Right is itself", inNode(10, func(n *api.Node) { n.Right = 10 }), find(10, api.ErrLink)},
		{"a branch's Left is its record", inNode(10, func(n *api.Node) { n.Left = 11 }), find(10, api.ErrLink)},
		{"a branch's Right is a later leaf", inNode(10, func(n *api.Node) { n.Right = 20 }), find(10, api.ErrLink)},
		{"a branch's Right is behind the mark", inNode(10, func(n *api.Node) { n.Right = 22 }), find(10, api.ErrLink)},
		{"a branch's Right is far behind it", inNode(10, func(n *api.Node) { n.Right = 4095 }), find(10, api.ErrLink)},
		{"a branch's Left is a record", inNode(10, func(n *api.Node) { n.Left = 7 }), find(10, api.ErrLink)},
		{"a branch's Right is a record", inNode(13, func(n *api.Node) { n.Right = 12 }), find(13, api.ErrLink)},
		{"a branch's counts are swapped", inNode(10, func(n *api.Node) { n.LeftCount, n.RightCount = 1, 2 }), find(10, api.ErrLink)},
		{"a leaf has two keys in its branch", both(
			inRecord(11, func(r *api.Record) { r.Count = 4 }),
			inNode(10, func(n *api.Node) { n.RightCount = 2 })), find(10, api.ErrLink)},
		{"a branch has three keys in its branch", both(
			inRecord(11, func(r *api.Record) { r.Count = 4 }),
			inNode(10, func(n *api.Node) { n.LeftCount = 3 })), find(10, api.ErrLink)},
		{"a branch has other counts than its branch says", inNode(9, func(n *api.Node) { n.RightCount = 2 }), find(10, api.ErrLink)},
		{"a root has other counts than its record says", inNode(10, func(n *api.Node) { n.RightCount = 2 }), find(11, api.ErrLink)},
		{"a key that does not fit its row", func(f *forgery) { f.layLeaf(8, keyB, "aa") }, find(9, api.ErrLink)},
		{"a key that does not fit in the row's last bit", func(f *forgery) { f.layLeaf(15, keyOf("001"), "d") }, find(16, api.ErrLink)},
		{"a key on the other side", func(f *forgery) { f.layLeaf(5, keyOf("01"), "c") }, find(6, api.ErrLink)},
		{"an old leaf under a row that is none of its", inNode(13, func(n *api.Node) { n.Left, n.Right = 5, 8 }), find(13, api.ErrLink)},
	})
}

// deep lays a row of branches, each the left child of the next, over what stands at a page with two keys, from a height on up to the root, and a record behind them.
func (f *forgery) deep(page, height int, below api.Digest) {
	f.Helper()
	for h := height; h < 256; h++ {
		page++
		f.layNode(page, api.Node{Kind: 2, Left: page - 1, LeftCount: 2, LeftSum: below})
		below = node.Branch(4, below, node.Empty(4, h))
	}
	page++
	f.layRecord(page, api.Record{Version: 1, Root: page - 1, Count: 2, Sum: below})
	f.super(func(s *api.Super) { s.Mark, s.Head = page+1, page })
}

// P17.5: a branch may stand under a row of 255 bits, not under one of 256.
func TestBranchOfTheWholeKey(t *testing.T) {
	t.Parallel()
	f := forged(t, committed(t, 300, 4))
	f.layLeaf(2, keyK, "k")
	f.layLeaf(3, last, "l")
	l, r := node.Leaf(4, keyK, []byte("k")), node.Leaf(4, last, []byte("l"))
	n := api.Node{Kind: 2, Left: 2, Right: 3, LeftCount: 1, RightCount: 1, LeftSum: l, RightSum: r}
	f.layNode(4, n)
	f.deep(4, 1, node.Branch(4, l, r))
	finds(t, "P17.5: 255 bits", f.image)
	allAsRead(t, "P17.5: 255 bits", f.image)
	if want := committed(t, 300, 4, list(put(keyK, "k"), put(last, "l"))); !slices.Equal(f.image[512:], want[512:]) {
		t.Error("P17.17: the forgery is not what a ledger lays")
	}
	f.deep(4, 0, node.Branch(4, l, r))
	finds(t, "P17.5: 256 bits", f.image, find(5, api.ErrLink))
}

// P17.5, P17.7: old pages that the version ahead does not have, or has at another row, are told at the page that states them.
func TestOldPages(t *testing.T) {
	image := laid(t, 40, 4, 0, story()...)
	tell(t, "P17.5", image, []fault{
		{"a root of an earlier version", inRecord(12, func(r *api.Record) { r.Root = 6 }), find(12, api.ErrOrder)},
		{"the root of the version two ahead", inRecord(19, func(r *api.Record) { r.Root, r.Count = 13, 2 }), find(19, api.ErrOrder)},
		{"a leaf of the version two ahead", inRecord(21, func(r *api.Record) { r.Root = 5 }), find(21, api.ErrOrder)},
		{"a leaf that was put anew since", inNode(13, func(n *api.Node) { n.Left, n.LeftSum = 2, sum(keyA, "a", 255) }), find(13, api.ErrOrder)},
		{"a leaf that was deleted", inNode(16, func(n *api.Node) { n.Right, n.RightSum = 3, sum(keyB, "b", 254) }), find(16, api.ErrOrder)},
		{"a branch of the row with a 0 as the root", inRecord(12, func(r *api.Record) { r.Root, r.Count = 9, 2 }), find(12, api.ErrOrder)},
	})
	// a branch of the version ahead under a longer row, all else being right
	deep := laid(t, 40, 4, 0, list(put(keyA, "a"), put(keyB, "b")), list(put(keyC, "c")))
	tell(t, "P17.5", deep, []fault{
		{"the old root as a child", inNode(8, func(n *api.Node) {
			n.Left, n.LeftSum = 5, node.Branch(4, node.Branch(4, sum(keyA, "a", 254), sum(keyB, "b", 254)), node.Empty(4, 255))
		}), find(8, api.ErrOrder)},
	})
}

// P17.5: a leaf of the version ahead may stand under any row that its key has.
func TestOldLeavesMove(t *testing.T) {
	t.Parallel()
	image := laid(t, 600, 4, 0, list(put(keyK, "k")), list(put(last, "l")), list(put(keyC, "c")), list(del(last)), list(del(keyC)))
	finds(t, "P17.5", image)
	pages(t, "P17.9", image, 1, api.OK, 2, 3)
	pages(t, "P17.9", image, -1, api.OK, 2, asReport(t, image).Head)
	allAsRead(t, "P17.5", image)
}

// P17.5: new pages that lie in another order than that in which they are staged, or that nobody needs.
func TestNewPagesOutOfOrder(t *testing.T) {
	image := laid(t, 40, 4, 0, story()...)
	a255 := sum(keyA, "aa", 255)
	tell(t, "P17.5", image, []fault{
		{"two leaves are swapped", func(f *forgery) {
			f.layLeaf(2, keyB, "b")
			f.layLeaf(3, keyA, "a")
			f.node(4, func(n *api.Node) { n.Left, n.Right = 3, 2 })
		}, find(3, api.ErrOrder)},
		{"the right child lies ahead of the left one", func(f *forgery) {
			_, branch := f.load(4)
			f.layLeaf(4, keyC, "c")
			f.lay(2, 5, branch)
			f.node(6, func(n *api.Node) { n.Left, n.Right = 5, 4 })
		}, find(5, api.ErrOrder)},
		{"a branch ahead of which a page is left out", both(
			inNode(17, func(n *api.Node) { n.Left, n.LeftCount, n.LeftSum = 8, 1, a255 }),
			inRecord(18, func(r *api.Record) { r.Count = 2 })), find(17, api.ErrOrder)},
		{"a leaf ahead of which a page is left out", both(
			inRecord(7, func(r *api.Record) { r.Root, r.Count = 3, 1 })), find(3, api.ErrOrder)},
		{"a branch that nobody needs", both(
			inRecord(14, func(r *api.Record) { r.Root, r.Count, r.Sum = 8, 1, sum(keyA, "aa", 256) })), find(13, api.ErrOrder)},
		{"an old root, and new pages that nobody needs", func(f *forgery) {
			_, load := f.load(14)
			f.record(18, func(r *api.Record) { r.Root, r.Count = 13, 2; r.Sum = api.Digest(load[24:]) })
		}, find(15, api.ErrOrder)},
		{"a new root, and new pages behind it that nobody needs", both(
			inRecord(18, func(r *api.Record) { r.Root, r.Count, r.Sum = 15, 1, sum(keyD, "d", 256) })), find(16, api.ErrOrder)},
	})
	// several pages of one part that nobody needs: the lowest one is told
	f := forged(t, committed(t, 16, 4, list(put(keyK, "k"))))
	for page, val := range map[int]string{3: "x", 4: "y"} {
		f.layLeaf(page, keyC, val)
	}
	f.layRecord(5, api.Record{Version: 1, Root: 2, Count: 1, Sum: sum(keyK, "k", 256)})
	f.super(func(s *api.Super) { s.Mark, s.Head = 6, 5 })
	finds(t, "P17.4", f.image, find(3, api.ErrOrder))
}

// P17.5: a new page whose like the version ahead has.
func TestTheLike(t *testing.T) {
	tell(t, "P17.5", laid(t, 40, 4, 0, story()...), []fault{
		{"a leaf", func(f *forgery) {
			f.layLeaf(8, keyA, "a")
			f.node(9, func(n *api.Node) { n.LeftSum = sum(keyA, "a", 254) })
		}, find(8, api.ErrOrder)},
		{"a leaf, its digest is not stated", func(f *forgery) { f.layLeaf(8, keyA, "a") }, find(8, api.ErrOrder)},
		{"a leaf with a value that begins so is another one", func(f *forgery) { f.layLeaf(8, keyA, "aaa") }, find(9, api.ErrDigest)},
		{"a leaf without a value is another one", func(f *forgery) { f.layLeaf(8, keyA, "") }, find(9, api.ErrDigest)},
		{"a leaf that an earlier version had is no like", func(f *forgery) { f.layLeaf(15, keyB, "b") }, find(16, api.ErrDigest)},
	})
	// a version that stages anew what it need not
	branch := laid(t, 16, 4, 0, list(put(keyA, "a"), put(keyC, "c")), nil)
	f := forged(t, branch)
	kind, load := f.load(4)
	f.lay(kind, 6, load)
	f.layRecord(7, api.Record{Version: 2, Prev: 5, Root: 6, Count: 2, Sum: node.Branch(4, sum(keyA, "a", 255), sum(keyC, "c", 255))})
	f.super(func(s *api.Super) { s.Mark, s.Head = 8, 7 })
	finds(t, "P17.5: a branch", f.image, find(6, api.ErrOrder))
	f.node(6, func(n *api.Node) { n.LeftSum[9] = 1 })
	finds(t, "P17.5: a branch that states another digest", f.image, find(6, api.ErrDigest))
	// what the version two ahead had is laid anew
	again := laid(t, 16, 4, 0, list(put(keyA, "a"), put(keyC, "c")), list(del(keyA), del(keyC)), list(put(keyA, "a"), put(keyC, "c")))
	finds(t, "P17.5: again", again)
	allAsRead(t, "P17.5: again", again)
}

// P17.5, P17.7: stated digests that are others, of new and old leaves and branches, in records and branches, within the width and behind it.
func TestDigests(t *testing.T) {
	t.Parallel()
	image := laid(t, 40, 4, 0, append(story()[:5:5], list(put(keyC, "cc")))...) // 19: leaf C, 20: branch (left 16), 21: record
	var faults []fault
	for _, at := range []int{0, 3, 4, 31} {
		for _, page := range []int{7, 11, 12, 14, 18, 21} {
			faults = append(faults, fault{fmt.Sprintf("byte %d of record %d", at, page), inRecord(page, func(r *api.Record) { r.Sum[at] ^= 64 }), find(page, api.ErrDigest)})
		}
		for _, page := range []int{4, 6, 9, 10, 13, 16, 17, 20} {
			faults = append(faults,
				fault{fmt.Sprintf("byte %d on the left of branch %d", at, page), inNode(page, func(n *api.Node) { n.LeftSum[at] ^= 1 }), find(page, api.ErrDigest)},
				fault{fmt.Sprintf("byte %d on the right of branch %d", at, page), inNode(page, func(n *api.Node) { n.RightSum[at] ^= 128 }), find(page, api.ErrDigest)})
		}
	}
	tell(t, "P17.5", image, append(faults, []fault{
		{"a leaf's digest of another height", inNode(13, func(n *api.Node) { n.LeftSum = sum(keyA, "aa", 254) }), find(13, api.ErrDigest)},
		{"a leaf's digest of height 0", inNode(13, func(n *api.Node) { n.LeftSum = sum(keyA, "aa", 0) }), find(13, api.ErrDigest)},
		{"a branch's digests are swapped", inNode(9, func(n *api.Node) { n.LeftSum, n.RightSum = n.RightSum, n.LeftSum }), find(9, api.ErrDigest)},
		{"another value", func(f *forgery) { f.layLeaf(2, keyA, "A") }, find(4, api.ErrDigest)},
		{"another key that fits", func(f *forgery) { f.layLeaf(5, keyOf("11"), "c") }, find(6, api.ErrDigest)},
		{"the last record has the Sum ahead", func(f *forgery) {
			_, load := f.load(18)
			f.record(21, func(r *api.Record) { r.Sum = api.Digest(load[24:]) })
		}, find(21, api.ErrDigest)},
	}...))
}

// P17.5: digests of branches with an empty side, on the left and on the right.
func TestDigestsBesideNothing(t *testing.T) {
	for name, keys := range map[string][2]api.Key{
		"left":  {keyOf("000"), keyOf("001")},
		"right": {keyOf("110"), keyOf("111")},
		"mixed": {keyOf("010"), keyOf("011")},
	} {
		image := laid(t, 16, 4, 0, list(put(keys[0], "x"), put(keys[1], "y"))) // 2, 3, branches 4, 5, 6, record 7
		finds(t, "P17.5: "+name, image)
		for page := 5; page <= 6; page++ {
			f := forged(t, image)
			f.node(page, func(n *api.Node) {
				n.Left, n.LeftCount, n.LeftSum, n.Right, n.RightCount, n.RightSum = n.Right, n.RightCount, n.RightSum, n.Left, n.LeftCount, n.LeftSum
			})
			finds(t, "P17.5: the other side: "+name, f.image, find(4, api.ErrLink))
		}
		f := forged(t, image)
		f.record(7, func(r *api.Record) { r.Sum = node.Empty(4, 256) })
		finds(t, "P17.5: the empty root: "+name, f.image, find(7, api.ErrDigest))
	}
}

// P17.4, P17.5: of two things that are wrong the first one in the document's order is told.
func TestTheFirstThingIsTold(t *testing.T) {
	image := laid(t, 40, 4, 0, story()...)
	wrongSum := func(r *api.Record) { r.Sum[0] ^= 1 }
	wrongPrev := func(r *api.Record) { r.Prev-- }
	tell(t, "P17.4", image, []fault{
		{"chain, then the empty root's digest", inRecord(19, func(r *api.Record) { wrongPrev(r); wrongSum(r) }), find(19, api.ErrChain)},
		{"chain, then link", inRecord(11, func(r *api.Record) { wrongPrev(r); r.Count = 1 }), find(11, api.ErrChain)},
		{"chain, then order", inRecord(11, func(r *api.Record) { wrongPrev(r); emptied(r) }), find(11, api.ErrChain)},
		{"chain, then digest", inRecord(11, func(r *api.Record) { wrongPrev(r); wrongSum(r) }), find(11, api.ErrChain)},
		{"chain, then what lies beneath", both(inRecord(11, wrongPrev), inNode(9, func(n *api.Node) { n.Left = 9 })), find(11, api.ErrChain)},
		{"the empty root's digest, then pages that nobody needs", inRecord(18, func(r *api.Record) { emptied(r); wrongSum(r) }), find(18, api.ErrDigest)},
		{"link, then old order", inRecord(21, func(r *api.Record) { r.Root, r.Count = 5, 2 }), find(21, api.ErrLink)},
		{"link, then what lies beneath", both(inRecord(11, func(r *api.Record) { r.Count = 2 }), inNode(9, func(n *api.Node) { n.Left = 9 })), find(11, api.ErrLink)},
		{"link, then digest", inRecord(11, func(r *api.Record) { r.Count = 2; wrongSum(r) }), find(11, api.ErrLink)},
		{"old order, then digest", inRecord(21, func(r *api.Record) { r.Root = 5; wrongSum(r) }), find(21, api.ErrOrder)},
		{"old order, then pages that nobody needs", inRecord(21, func(r *api.Record) { r.Root = 5 }), find(21, api.ErrOrder)},
		{"the left child, then the right one", both(inNode(4, func(n *api.Node) { n.LeftSum[0] ^= 1 }), inNode(6, func(n *api.Node) { n.RightSum[0] ^= 1 })), find(4, api.ErrDigest)},
		{"the left leaf's order, then the right one's", func(f *forgery) {
			f.layLeaf(2, keyB, "b")
			f.layLeaf(3, keyA, "a")
			f.node(4, func(n *api.Node) { n.Left, n.Right = 3, 2; n.LeftSum[0] ^= 1 })
		}, find(3, api.ErrOrder)},
		{"a right child's link, then its branch's order", both(
			inNode(17, func(n *api.Node) { n.Left, n.LeftCount, n.LeftSum, n.Right = 8, 1, sum(keyA, "aa", 255), 18 }),
			inRecord(18, func(r *api.Record) { r.Count = 2 })), find(17, api.ErrLink)},
		{"a child's digest, then its branch's order", both(
			inNode(17, func(n *api.Node) { n.Left, n.LeftCount = 8, 1 }),
			inRecord(18, func(r *api.Record) { r.Count = 2 })), find(17, api.ErrDigest)},
		{"a branch's order, then its digest", both(
			inNode(17, func(n *api.Node) { n.Left, n.LeftCount, n.LeftSum = 8, 1, sum(keyA, "aa", 255) }),
			inRecord(18, func(r *api.Record) { r.Count = 2; wrongSum(r) })), find(17, api.ErrOrder)},
		{"the like, then the digest", both(inNode(9, func(n *api.Node) { n.LeftSum[0] ^= 1 }), func(f *forgery) { f.layLeaf(8, keyA, "a") }), find(8, api.ErrOrder)},
		{"the left leaf's like, then the right one's link", both(inNode(9, func(n *api.Node) { n.Right = 10 }), func(f *forgery) { f.layLeaf(8, keyA, "a") }), find(8, api.ErrOrder)},
		{"a digest, then pages that nobody needs", inRecord(18, func(r *api.Record) { r.Root, r.Count = 15, 1 }), find(18, api.ErrDigest)},
		{"pages that nobody needs, then the next version", both(inRecord(18, emptied), inRecord(19, wrongSum)), find(15, api.ErrOrder)},
		{"a version, then the next one", both(inRecord(18, wrongSum), inRecord(19, wrongPrev)), find(18, api.ErrDigest)},
		{"the last version, then what lies behind", both(inRecord(21, wrongSum), func(f *forgery) { f.super(func(s *api.Super) { s.Head = 19 }) }), find(21, api.ErrDigest)},
	})
}

// P17.8: what lies behind the last record, and the head.
func TestBehindTheLastRecord(t *testing.T) {
	image := laid(t, 40, 4, 0, story()...)
	mark := func(mark, head int) func(f *forgery) {
		return func(f *forgery) {
			f.Helper()
			for page := 22; page < mark; page++ {
				f.layLeaf(page, keyA, "behind")
			}
			f.super(func(s *api.Super) { s.Mark, s.Head = mark, head })
		}
	}
	tell(t, "P17.8", image, []fault{
		{"a leaf", mark(23, 21), find(22, api.ErrOrder)},
		{"leaves", mark(40, 21), find(22, api.ErrOrder)},
		{"a leaf that is the head", mark(23, 22), find(22, api.ErrOrder)},
		{"a leaf, and no head", mark(24, 0), find(22, api.ErrOrder)},
		{"no head", mark(22, 0), find(21, api.ErrChain)},
		{"another record as the head", mark(22, 19), find(21, api.ErrChain)},
		{"a leaf as the head", mark(22, 20), find(21, api.ErrChain)},
		{"the mark ends within a part", mark(21, 19), find(20, api.ErrOrder)},
		{"the mark ends within a part, the head is no record", mark(18, 17), find(15, api.ErrOrder)},
		{"the mark ends within the first part", mark(5, 0), find(2, api.ErrOrder)},
		{"the mark ends within the first part, with a head", mark(5, 3), find(2, api.ErrOrder)},
	})
	f := forged(t, image)
	mark(20, 19)(f)
	finds(t, "P17.8: the mark ends behind an earlier record", f.image)
	checks(t, "P17.8", f.image, api.Report{Width: 4, Pages: 40, Mark: 20, Head: 19, Last: 6, Leaves: 5, Branches: 7, Records: 6})
	allAsRead(t, "P17.8", f.image)
	mark(2, 0)(f)
	checks(t, "P17.8: no page is used", f.image, api.Report{Width: 4, Pages: 40, Mark: 2})
	allAsRead(t, "P17.8", f.image)
}

// P17.6: the first version stands behind the empty map, whatever its First is.
func TestFirstVersion(t *testing.T) {
	for _, first := range []int{0, 1, 7} {
		image := laid(t, 40, 4, first, nil, story()[0])
		finds(t, "P17.6", image)
		allAsRead(t, "P17.6", image)
		pages(t, "P17.6", image, max(first, 1), api.OK, 2)
	}
}
