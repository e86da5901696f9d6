package ledger_test

import (
	"encoding/binary"
	"slices"
	"strings"

	"ledger/api"
)

// reading goes through the pages of an image as the document says which ones each call looks at (P16.22). It is honest: what is spoilt is a page's number alone.
type reading struct {
	image  []byte
	head   int
	spoilt int
}

// read makes a reading of an image that is whole.
func read(image []byte) *reading {
	x := &reading{image: image}
	a, b := image[:64], image[256:320]
	if binary.LittleEndian.Uint64(a[8:]) < binary.LittleEndian.Uint64(b[8:]) {
		a = b
	}
	x.head = int(binary.LittleEndian.Uint32(a[20:]))
	return x
}

// load tells a page's kind and load.
func (x *reading) load(page int) (int, []byte) {
	raw := x.image[256*page : 256*page+256]
	return int(raw[0]), raw[6 : 6+int(raw[1])]
}

// record tells the record on a page.
func (x *reading) record(page int) (r api.Record) {
	kind, load := x.load(page)
	if kind != api.KindRecord {
		panic("no record")
	}
	for i, field := range []*int{&r.Version, &r.First, &r.Prev, &r.Skip, &r.Root, &r.Count} {
		*field = int(binary.LittleEndian.Uint32(load[4*i:]))
	}
	copy(r.Sum[:], load[24:])
	return r
}

// node tells the node on a page.
func (x *reading) node(page int) (n api.Node) {
	kind, load := x.load(page)
	switch kind {
	case api.KindLeaf:
		return api.Node{Kind: kind, Key: api.Key(load[:32]), Val: load[32:]}
	case api.KindRecord:
		panic("no node")
	}
	n.Kind = kind
	for i, field := range []*int{&n.Left, &n.Right, &n.LeftCount, &n.RightCount} {
		*field = int(binary.LittleEndian.Uint32(load[4*i:]))
	}
	return n
}

// numberOf tells how many records there are up to one.
func numberOf(version, first int) int {
	if first == 0 {
		return version
	}
	return version - first + 1
}

// find tells which records a call at a version looks at, and the version's root page (P15.8, P16.22).
func (x *reading) find(version int) (looked []int, root int) {
	if x.head == 0 {
		return nil, 0
	}
	page, r := x.head, x.record(x.head)
	if version == -1 || version == r.Version {
		return nil, r.Root
	}
	looked = []int{page}
	if version == 0 {
		return looked, 0
	}
	wanted := numberOf(version, r.First)
	for i := numberOf(r.Version, r.First); i != wanted; i = numberOf(r.Version, r.First) {
		if page = r.Prev; i&(i-1) >= wanted {
			page = r.Skip
		}
		r = x.record(page)
		looked = append(looked, page)
	}
	return looked, r.Root
}

// add tells which records a Commit looks at (P15.5 to P15.7).
func (x *reading) add() (looked []int) {
	if x.head == 0 {
		return nil
	}
	page, r := x.head, x.record(x.head)
	looked = []int{page}
	next := numberOf(r.Version, r.First) + 1
	wanted := next & (next - 1)
	for wanted != 0 && numberOf(r.Version, r.First) != wanted {
		page = r.Skip
		r = x.record(page)
		looked = append(looked, page)
	}
	return looked
}

// newest tells the newest version's root page.
func (x *reading) newest() int {
	_, root := x.find(-1)
	return root
}

// path tells the pages on a key's path (P10.4).
func (x *reading) path(page int, k api.Key) (looked []int) {
	for _, bit := range bitsOf(k) + "." {
		if page == 0 {
			break
		}
		looked = append(looked, page)
		n := x.node(page)
		if n.Kind == api.KindLeaf {
			break
		}
		if page = n.Left; bit == '1' {
			page = n.Right
		}
	}
	return looked
}

// paths tells the pages that Cost looks at for a list.
func (x *reading) paths(cs []api.Change) (looked []int) {
	for _, c := range cs {
		looked = append(looked, x.path(x.newest(), c.Key)...)
	}
	return looked
}

// rootOf tells the page that Sum and Count look at where the next version has this map, if that page lies on the disk already.
func (x *reading) rootOf(next entries) []int {
	m, root := x.all(x.newest()), x.newest()
	switch {
	case len(next) == 0:
		return nil
	case len(m.diff(next)) == 0:
		return []int{root}
	case len(next) > 1:
		return nil
	}
	for k, val := range next {
		if old, has := m[k]; has && old == val {
			path := x.path(root, k)
			return path[len(path)-1:]
		}
	}
	return nil
}

// all tells the map of a tree.
func (x *reading) all(page int) entries {
	m := entries{}
	if page == 0 {
		return m
	}
	if n := x.node(page); n.Kind == api.KindLeaf {
		m[n.Key] = string(n.Val)
	} else {
		for _, child := range []int{n.Left, n.Right} {
			for k, val := range x.all(child) {
				m[k] = val
			}
		}
	}
	return m
}

// touched tells the pages at places that are not outside of a span (P14.2).
func (x *reading) touched(page int, lo, hi api.Key) []int {
	var looked []int
	var down func(page int, row string)
	down = func(page int, row string) {
		if page == 0 || outside(row, lo, hi) {
			return
		}
		looked = append(looked, page)
		if n := x.node(page); n.Kind == api.KindBranch {
			down(n.Left, row+"0")
			down(n.Right, row+"1")
		}
	}
	down(page, "")
	return looked
}

// scan tells the pages that a Scan looks at (P11.6).
func (x *reading) scan(page int, lo, hi api.Key, limit int) (looked []int) {
	found := 0
	for _, page := range x.touched(page, lo, hi) {
		if found > limit {
			break
		}
		looked = append(looked, page)
		if n := x.node(page); n.Kind == api.KindLeaf && bitsOf(lo) <= bitsOf(n.Key) && bitsOf(n.Key) <= bitsOf(hi) {
			found++
		}
	}
	return looked
}

// stand is what a tree has at a place: a page that is yet to be looked at, or a leaf that was found above.
type stand struct {
	page int
	leaf *api.Node
}

// between tells the pages that a Diff looks at (P11.8).
func (x *reading) between(a, b int) (looked []int) {
	look := func(s stand) (stand, *api.Node) {
		if s.leaf != nil || s.page == 0 {
			return s, s.leaf
		}
		looked = append(looked, s.page)
		n := x.node(s.page)
		if n.Kind == api.KindLeaf {
			s.leaf = &n
		}
		return s, &n
	}
	child := func(s stand, n *api.Node, row string) stand {
		switch {
		case n == nil, n.Kind == api.KindLeaf && !strings.HasPrefix(bitsOf(n.Key), row):
			return stand{}
		case n.Kind == api.KindLeaf:
			return s
		case strings.HasSuffix(row, "0"):
			return stand{page: n.Left}
		}
		return stand{page: n.Right}
	}
	var down func(s, t stand, row string)
	down = func(s, t stand, row string) {
		if s.page == t.page {
			return
		}
		s, n := look(s)
		t, o := look(t)
		if (n == nil || n.Kind == api.KindLeaf) && (o == nil || o.Kind == api.KindLeaf) {
			return
		}
		for _, bit := range "01" {
			below := row + string(bit)
			down(child(s, n, below), child(t, o, below), below)
		}
	}
	down(stand{page: a}, stand{page: b}, "")
	return looked
}

// laidPages tells all pages that some version uses, its record among them.
func (x *reading) laidPages() (pages []int) {
	for page := x.head; page != 0; page = x.record(page).Prev {
		pages = append(pages, page)
		pages = append(pages, x.touched(x.record(page).Root, api.Key{}, keyOf(strings.Repeat("1", 256)))...)
	}
	slices.Sort(pages)
	return slices.Compact(pages)
}
