package audit_test

import (
	"fmt"
	"math/rand/v2"
	"slices"
	"testing"

	"ledger/api"
	"ledger/node"
)

// mutation is one change of an image whose checksums are made right behind it.
type mutation struct {
	name string
	turn func(f *forgery)
}

// numbered lays another number into each field of a page's load.
func numbered(page, fields int, numbers ...int) (all []mutation) {
	for i := range fields {
		for _, n := range numbers {
			all = append(all, mutation{fmt.Sprintf("page %d, field %d: %d", page, i, n), func(f *forgery) { f.number(page, 4*i, n) }})
		}
	}
	return all
}

// turned turns one bit of a page's load.
func turned(page, bit int) mutation {
	return mutation{fmt.Sprintf("page %d, bit %d", page, bit), func(f *forgery) {
		kind, load := f.load(page)
		load[bit/8] ^= 128 >> (bit % 8)
		f.lay(kind, page, load)
	}}
}

// fieldsOf tells how many numbers stand in the load of a page of the story, 0 of a leaf.
func fieldsOf(image []byte, page int) int { return map[byte]int{2: 4, 3: 6}[image[256*page]] }

// each goes through mutations of an image, several at once, and holds the calls to the reading; what is clean must be right.
func each(t *testing.T, image []byte, all []mutation) {
	const parts = 8
	for part := range parts {
		t.Run(fmt.Sprint(part), func(t *testing.T) {
			t.Parallel()
			for i := part; i < len(all); i += parts {
				f := forged(t, image)
				all[i].turn(f)
				if _, clean := asRead(t, all[i].name, f.image); clean {
					right(t, all[i].name, f.image)
				}
			}
		})
	}
}

// P17.2 to P17.8, P17.15: every number of every page of the story is made each other one that a page may have, and each bit of the keys and some of the digests is turned, one at a time.
func TestEachFieldForged(t *testing.T) {
	image := laid(t, 24, 4, 0, story()...)
	var all []mutation
	for page := 2; page < 22; page++ {
		all = append(all, numbered(page, fieldsOf(image, page), append(upTo(24), 4095, 4096, 1<<30, 1<<31)...)...)
		for _, bit := range []int{0, 1, 2, 7, 8, 127, 128, 159, 192, 223, 224, 255} {
			all = append(all, turned(page, bit))
		}
		if fieldsOf(image, page) == 0 {
			all = append(all, turned(page, 256)) // a bit of the value
		}
	}
	for mark := 2; mark <= 24; mark++ {
		for _, head := range append([]int{0}, between(2, mark-1)...) {
			all = append(all, mutation{fmt.Sprintf("mark %d, head %d", mark, head), func(f *forgery) {
				f.super(func(s *api.Super) { s.Mark, s.Head = mark, head })
			}})
		}
	}
	each(t, image, all)
}

// P17.4, P17.5: two things wrong at once, in the versions 4 and 5, which have old and new pages of both kinds: the one that the document's order puts first is told.
func TestTwoFieldsForged(t *testing.T) {
	image := laid(t, 24, 4, 0, story()[:5]...)
	var single []mutation
	for page := 13; page <= 18; page++ {
		single = append(single, turned(page, 1), turned(page, 200))
		switch fieldsOf(image, page) {
		case 4:
			single = append(single, numbered(page, 2, 2, 5, 8, 13, 15, 16, 19)...)
			single = append(single, numbered(page, 4, 1, 2)...)
		case 6:
			single = append(single, numbered(page, 6, 2, 5, 8, 13, 14, 17)...)
		}
	}
	var all []mutation
	for i, a := range single {
		for j, b := range single[:i] {
			if (i+j)%3 == 0 { // all pairs would take long
				all = append(all, mutation{a.name + " and " + b.name, func(f *forgery) { b.turn(f); a.turn(f) }})
			}
		}
	}
	each(t, image, all)
}

// pick tells one of a list.
func pick[T any](rnd *rand.Rand, list ...T) T { return list[rnd.IntN(len(list))] }

// drawnList tells changes of unlike keys, few of which there are.
func drawnList(rnd *rand.Rand, most int) (cs []api.Change) {
	seen := map[api.Key]bool{}
	for range rnd.IntN(most + 1) {
		k := keyOf(fmt.Sprintf("%04b", rnd.IntN(16)))
		if rnd.IntN(5) == 0 {
			k[1] = 128 >> rnd.IntN(3)
		}
		if seen[k] {
			continue
		}
		seen[k] = true
		if rnd.IntN(3) == 0 {
			cs = append(cs, del(k))
		} else {
			cs = append(cs, put(k, text(rnd.IntN(9), pick(rnd, 0, 1, 2, 128))))
		}
	}
	return cs
}

// drawnStory lays drawn versions.
func drawnStory(t *testing.T, rnd *rand.Rand, width int) []byte {
	t.Helper()
	var lists [][]api.Change
	for range 1 + rnd.IntN(9) {
		lists = append(lists, drawnList(rnd, 5))
	}
	return laid(t, 150, width, pick(rnd, 0, 0, 1, 2, 77), lists...)
}

// drawnFault changes something in one used page, or in which pages are used.
func (f *forgery) drawnFault(rnd *rand.Rand, mark int) {
	f.Helper()
	page, other := 2+rnd.IntN(mark-2), 2+rnd.IntN(mark-2)
	kind, load := f.load(page)
	switch rnd.IntN(9) {
	case 0: // another page's load in its place
		f.copies(page, other)
	case 1: // the two change places
		otherKind, otherLoad := f.load(other)
		f.lay(kind, other, load)
		f.lay(otherKind, page, otherLoad)
	case 2: // another kind
		f.lay(1+rnd.IntN(3), page, load)
	case 3:
		f.super(func(s *api.Super) {
			if head := pick(rnd, 0, page, other); head < s.Mark {
				s.Head = head
			}
		})
	case 4:
		f.super(func(s *api.Super) { s.Mark = page + 1; s.Head = min(s.Head, page) })
	case 5, 6, 7: // a number
		if fields := map[int]int{2: 4, 3: 6}[kind]; fields > 0 && len(load) >= 24 {
			f.number(page, 4*rnd.IntN(fields), pick(rnd, 0, 1, 2, 3, other, page-1, page, page+1))
			return
		}
		fallthrough
	default: // a bit
		if len(load) > 0 {
			load[rnd.IntN(len(load))] ^= 1 << rnd.IntN(8)
			f.lay(kind, page, load)
		}
	}
}

// copies lays one page's load into another one.
func (f *forgery) copies(to, from int) {
	f.Helper()
	kind, load := f.load(from)
	f.lay(kind, to, load)
}

// P17.2 to P17.17: drawn histories are clean and right; with drawn faults, of which there are few, all calls answer as the document reads, and what is clean all the same is right.
func TestDrawnForgeries(t *testing.T) {
	for seed := range uint64(16) {
		t.Run(fmt.Sprint(seed), func(t *testing.T) {
			t.Parallel()
			rnd := rand.New(rand.NewPCG(seed, 17))
			image := drawnStory(t, rnd, pick(rnd, 1, 1, 2, 32))
			name := fmt.Sprintf("seed %d", seed)
			if !allAsRead(t, name, image) {
				t.Fatalf("P17.13: %s: it is not clean", name)
			}
			right(t, name, image)
			mark, clean := asReport(t, image).Mark, 0
			for i := range 100 {
				f := forged(t, image)
				for range 1 + rnd.IntN(3) {
					f.drawnFault(rnd, mark)
				}
				name := fmt.Sprintf("%s, image %d", name, i)
				if _, is := asRead(t, name, f.image); is && clean < 3 {
					clean++
					allAsRead(t, name, f.image)
					right(t, name, f.image)
				}
				if t.Failed() {
					return
				}
			}
		})
	}
}

// P17.12: pages that stand alone and are drawn in all else: every call ends, and answers as the document reads.
func TestDrawnPages(t *testing.T) {
	t.Parallel()
	for seed := range uint64(300) {
		rnd := rand.New(rand.NewPCG(seed, 18))
		pages := 4 + rnd.IntN(30)
		f := forged(t, committed(t, pages, 1+rnd.IntN(32)))
		number, end := 0, 0
		for page := 2; page < pages; page++ {
			switch below := page - 2; {
			case below >= 2 && rnd.IntN(3) == 0:
				left := 2 + rnd.IntN(below)
				f.layNode(page, api.Node{Kind: 2, Left: left, Right: 2 + (left-2+1+rnd.IntN(below-1))%below, LeftCount: 1 + rnd.IntN(2), RightCount: 1 + rnd.IntN(2)})
			case rnd.IntN(3) > 0:
				f.layLeaf(page, keyOf(fmt.Sprintf("%03b", rnd.IntN(8))), text(page, rnd.IntN(3)))
			default:
				number++
				r := api.Record{Version: number, Prev: end, Skip: end}
				if number%2 == 0 {
					r.Skip = 0
				}
				if number&(number-1) != 0 && number%2 == 0 {
					r.Skip = 2
				}
				if below > 0 {
					r.Root, r.Count = 2+rnd.IntN(below), 1+rnd.IntN(3)
				}
				f.layRecord(page, r)
				end = page
			}
		}
		f.super(func(s *api.Super) { s.Mark, s.Head = pages, end })
		allAsRead(t, fmt.Sprintf("P17.12: seed %d", seed), f.image)
	}
}

// P17.12: bytes that are drawn altogether, and a clean image with a row of bytes drawn anew.
func TestDrawnBytes(t *testing.T) {
	t.Parallel()
	image := laid(t, 24, 4, 0, story()...)
	for seed := range uint64(600) {
		rnd := rand.New(rand.NewPCG(seed, 19))
		b := slices.Clone(image)
		from := rnd.IntN(len(b))
		if seed%3 == 0 {
			from = 0
			b = b[:rnd.IntN(len(b))]
		}
		if seed%6 == 0 {
			b = b[:len(b)/256*256]
		}
		for i := from; i < min(len(b), from+1+rnd.IntN(600)); i++ {
			b[i] = byte(rnd.Uint32())
		}
		allAsRead(t, fmt.Sprintf("P17.12: seed %d", seed), b)
	}
}

// P17.12: branches that lead to the same lower ones over and over: to go through all of it would never end.
func TestWaysThatMultiply(t *testing.T) {
	t.Parallel()
	f := forged(t, committed(t, 40, 4))
	f.layLeaf(2, keyK, "")
	f.layLeaf(3, keyC, "")
	counts := []int{0, 0, 1, 1}
	for page := 4; page < 19; page++ {
		counts = append(counts, counts[page-1]+counts[page-2])
		f.layNode(page, api.Node{Kind: 2, Left: page - 1, Right: page - 2, LeftCount: counts[page-1], RightCount: counts[page-2]})
	}
	f.layRecord(19, api.Record{Version: 1, Root: 18, Count: counts[18]})
	f.super(func(s *api.Super) { s.Mark, s.Head = 20, 19 })
	finds(t, "P17.12", f.image, find(4, api.ErrLink))
	allAsRead(t, "P17.12", f.image)
	// the same over old pages, version by version: each states the one ahead twice, under two rows
	g := forged(t, laid(t, 40, 4, 0, list(put(keyA, "a"), put(keyB, "b"))))
	for i := range 8 {
		page := 7 + 2*i
		g.layNode(page, api.Node{Kind: 2, Left: 5, Right: 4, LeftCount: 2, RightCount: 2})
		g.layRecord(page+1, api.Record{Version: 1, First: 1, Root: page, Count: 4})
	}
	g.super(func(s *api.Super) { s.Mark, s.Head = 23, 22 })
	allAsRead(t, "P17.12", g.image)
}

// P17.4, P17.12: the greatest images: records alone, one leaf with records behind it, one key put over and over, a tree with many keys.
func TestGreatImages(t *testing.T) {
	if testing.Short() {
		t.Skip()
	}
	t.Run("records", func(t *testing.T) {
		t.Parallel()
		image := laid(t, 4096, 4, 0, make([][]api.Change, 4094)...)
		checks(t, "P17.12", image, api.Report{Width: 4, Pages: 4096, Mark: 4096, Head: 4095, Last: 4094, Records: 4094})
		pages(t, "P17.9", image, 4000, api.OK, 4001)
		garbage(t, "P17.11", image, 4094, api.OK, between(2, 4094)...)
		owner(t, "P17.10", image, 4095, 4094, api.OK)
		owner(t, "P17.10", image, 4096, 0, api.ErrPage)
		f := forged(t, image)
		f.record(4001, func(r *api.Record) { r.Skip-- })
		finds(t, "P17.4: far on", f.image, find(4001, api.ErrChain))
	})
	t.Run("a leaf", func(t *testing.T) {
		t.Parallel()
		image := laid(t, 4096, 32, 5, append([][]api.Change{list(put(keyK, "k"))}, make([][]api.Change, 4092)...)...)
		checks(t, "P17.12", image, api.Report{Width: 32, Pages: 4096, Mark: 4096, Head: 4095, First: 5, Last: 4097, Leaves: 1, Records: 4093})
		pages(t, "P17.9", image, -1, api.OK, 2, 4095)
		garbage(t, "P17.11", image, 5, api.OK)
	})
	t.Run("one key over and over", func(t *testing.T) {
		t.Parallel()
		lists := [][]api.Change{list(put(keyK, "k"), put(keyC, "c"))}
		for i := range 1000 {
			lists = append(lists, list(put(keyK, fmt.Sprint(i))))
		}
		image := laid(t, 4096, 4, 0, lists...)
		finds(t, "P17.12", image)
		head := asReport(t, image).Head
		pages(t, "P17.9", image, -1, api.OK, 3, head-2, head-1, head)
	})
	t.Run("many keys", func(t *testing.T) {
		t.Parallel()
		var many []api.Change
		for i := range 1500 {
			many = append(many, put(keyOf(fmt.Sprintf("%011b", i)), ""))
		}
		image := laid(t, 4096, 4, 0, many, list(del(many[0].Key)), nil)
		finds(t, "P17.12", image)
		used := asReport(t, image)
		if used.Leaves != 1500 {
			t.Errorf("P17.2: %d leaves", used.Leaves)
		}
		f := forged(t, image)
		f.node(used.Head-2, func(n *api.Node) { n.RightSum[0] ^= 1 })
		finds(t, "P17.5", f.image, find(used.Head-2, api.ErrDigest))
	})
}

// P17.5: the deepest tree: two keys that part at the last bit, through versions in which they come and go; each branch's digest is asked for.
func TestDeepTree(t *testing.T) {
	t.Parallel()
	image := laid(t, 1100, 4, 0, list(put(keyK, "k"), put(last, "l")), list(put(last, "m")), list(del(keyK)), list(put(keyK, "n")))
	finds(t, "P17.5", image)
	asRead(t, "P17.5", image)
	for page := 4; page < 260; page += 17 {
		f := forged(t, image)
		f.node(page, func(n *api.Node) { n.LeftSum[1] ^= 1 })
		finds(t, "P17.5", f.image, find(page, api.ErrDigest))
	}
	f := forged(t, image)
	f.record(260, func(r *api.Record) { r.Sum = node.Empty(4, 256) })
	finds(t, "P17.5", f.image, find(260, api.ErrDigest))
}
