package audit_test

import (
	"bytes"
	"encoding/binary"
	"fmt"
	"slices"
	"strings"
	"testing"

	"ledger/api"
	"ledger/audit"
	"ledger/batch"
	"ledger/disk"
	"ledger/file"
	"ledger/frame"
	"ledger/index"
	"ledger/ledger"
	"ledger/node"
	"ledger/store"
	"ledger/tree"
)

const (
	highest = int(^uint(0) >> 1)
	lowest  = -highest - 1
)

// keyOf tells the key that begins with these bits; all others are 0.
func keyOf(bits string) (k api.Key) {
	for i, b := range bits {
		if b == '1' {
			k[i/8] |= 128 >> (i % 8)
		}
	}
	return k
}

// The keys of most histories here; the last two part at the very last bit.
var (
	keyA = keyOf("00")
	keyB = keyOf("01")
	keyC = keyOf("1")
	keyD = keyOf("011")
	keyK = api.Key{}
	last = api.Key{31: 1}
	high = keyOf(strings.Repeat("1", 256))
)

func put(k api.Key, val string) api.Change { return api.Change{Key: k, Val: []byte(val)} }

func del(k api.Key) api.Change { return api.Change{Key: k, Del: true} }

func list(cs ...api.Change) []api.Change { return cs }

// raw tells the bytes of a batch.
func raw(cs ...api.Change) []byte {
	b, e := batch.Build(cs...)
	if e != api.OK {
		panic(e)
	}
	return b
}

// text makes n bytes, others for another seed.
func text(seed, n int) string {
	b := make([]byte, n)
	for i := range b {
		b[i] = byte(seed*37 + i*i + i>>3 + 1)
	}
	return string(b)
}

func blank(t *testing.T, pages int) *disk.Disk {
	t.Helper()
	d, e := disk.New(pages)
	if e != api.OK {
		t.Fatal(e)
	}
	return d
}

// created makes a fresh ledger.
func created(t *testing.T, pages, width int) (*disk.Disk, *ledger.Ledger) {
	t.Helper()
	d := blank(t, pages)
	l, err := ledger.Create(d, width, 8)
	if err != nil {
		t.Fatal(err)
	}
	return d, l
}

// committed tells the image of a ledger behind some batches.
func committed(t *testing.T, pages, width int, lists ...[]api.Change) []byte {
	t.Helper()
	d, l := created(t, pages, width)
	for _, cs := range lists {
		if _, err := l.Commit(raw(cs...)); err != nil {
			t.Fatal(err)
		}
	}
	return d.Image()
}

// scribe lays versions onto a disk without a ledger: from any first version on, with lists of any length.
type scribe struct {
	*testing.T
	d    *disk.Disk
	s    *store.Store
	head int
	root int
}

func scribes(t *testing.T, pages, width int) *scribe {
	t.Helper()
	d := blank(t, pages)
	if e := file.Format(d, width); e != api.OK {
		t.Fatal(e)
	}
	f, e := file.Open(d)
	if e != api.OK {
		t.Fatal(e)
	}
	s, e := store.New(f, api.MaxRoom)
	if e != api.OK {
		t.Fatal(e)
	}
	return &scribe{t, d, s, 0, 0}
}

// lays lays one version; first counts for the very first one alone.
func (x *scribe) lays(first int, cs []api.Change) {
	x.Helper()
	if e := x.flushes(first, cs); e != api.OK {
		x.Fatal(e)
	}
}

// flushes is lays where power may go; it tells what the flushing answers.
func (x *scribe) flushes(first int, cs []api.Change) api.Errno {
	x.Helper()
	root, e := tree.Update(x.s, x.root, cs)
	if e != api.OK {
		x.Fatal(e)
	}
	sum, e := tree.Sum(x.s, root)
	if e != api.OK {
		x.Fatal(e)
	}
	count, e := tree.Count(x.s, root)
	if e != api.OK {
		x.Fatal(e)
	}
	r := api.Record{Version: max(first, 1), First: first, Root: root, Count: count, Sum: sum}
	head, e := index.Add(x.s, x.head, r)
	if e != api.OK {
		x.Fatal(e)
	}
	x.head, x.root = head, root
	return x.s.Flush(head)
}

// laid tells the image of versions from a first one on; with a first of 0 or 1 the first list makes version 1.
func laid(t *testing.T, pages, width, first int, lists ...[]api.Change) []byte {
	t.Helper()
	x := scribes(t, pages, width)
	for _, cs := range lists {
		x.lays(first, cs)
	}
	return x.d.Image()
}

// story is the history on which most forgeries stand, with these pages:
//
//	1: leaves A 2, B 3, branch 0 4, leaf C 5, branch 6, record 7
//	2: leaf A 8, branch 0 9, branch 10, record 11
//	3: record 12
//	4: branch 13 (left A's leaf 8, right 5), record 14
//	5: leaf D 15, branch 0 16, branch 17, record 18
//	6: record 19 (the empty map)
//	7: leaf C 20, record 21
func story() [][]api.Change {
	return [][]api.Change{
		list(put(keyA, "a"), put(keyB, "b"), put(keyC, "c")),
		list(put(keyA, "aa")),
		nil,
		list(del(keyB)),
		list(put(keyD, "d")),
		list(del(keyA), del(keyC), del(keyD)),
		list(put(keyC, "c")),
	}
}

// forgery is an image whose pages are laid anew with right checksums.
type forgery struct {
	*testing.T
	image []byte
}

// forged makes a forgery of a copy.
func forged(t *testing.T, image []byte) *forgery { return &forgery{t, slices.Clone(image)} }

// lay lays any load into a page.
func (f *forgery) lay(kind, page int, load []byte) {
	f.Helper()
	b, e := frame.Pack(kind, page, load)
	if e != api.OK {
		f.Fatal(e)
	}
	copy(f.image[256*page:], b)
}

// load tells a page's load.
func (f *forgery) load(page int) (int, []byte) {
	f.Helper()
	kind, load, e := frame.Unpack(page, f.image[256*page:256*page+256])
	if e != api.OK {
		f.Fatal(page, e)
	}
	return kind, load
}

// node changes a node; what comes out must be one.
func (f *forgery) node(page int, turn func(n *api.Node)) {
	f.Helper()
	n, e := node.Decode(f.load(page))
	if e != api.OK {
		f.Fatal(page, e)
	}
	turn(&n)
	f.layNode(page, n)
}

func (f *forgery) layNode(page int, n api.Node) {
	f.Helper()
	load, e := node.Encode(n)
	if e != api.OK {
		f.Fatal(page, e)
	}
	f.lay(n.Kind, page, load)
}

// layLeaf lays a leaf.
func (f *forgery) layLeaf(page int, k api.Key, val string) {
	f.Helper()
	f.layNode(page, api.Node{Kind: api.KindLeaf, Key: k, Val: []byte(val)})
}

// record changes a record; what comes out must be one.
func (f *forgery) record(page int, turn func(r *api.Record)) {
	f.Helper()
	_, load := f.load(page)
	r, e := index.Decode(load)
	if e != api.OK {
		f.Fatal(page, e)
	}
	turn(&r)
	f.layRecord(page, r)
}

func (f *forgery) layRecord(page int, r api.Record) {
	f.Helper()
	load, e := index.Encode(r)
	if e != api.OK {
		f.Fatal(page, r, e)
	}
	f.lay(api.KindRecord, page, load)
}

// super lays superblocks of both slots anew: the chosen one, changed, and behind it in the older slot one that it follows.
func (f *forgery) super(turn func(s *api.Super)) {
	f.Helper()
	s, e := frame.Choose(f.image[:256], f.image[256:512])
	if e != api.OK {
		f.Fatal(e)
	}
	turn(&s)
	old := api.Super{Width: s.Width, Generation: s.Generation - 1, Mark: 2, Pages: s.Pages}
	if s.Generation == 0 {
		old.Generation = 1
		old, s = s, old
	}
	for _, x := range []api.Super{old, s} {
		b, e := frame.PackSuper(x)
		if e != api.OK {
			f.Fatal(e)
		}
		copy(f.image[256*(x.Generation%2):], b)
	}
}

// number changes the number of four bytes at a place of a page's load, whatever comes out.
func (f *forgery) number(page, at, n int) {
	f.Helper()
	kind, load := f.load(page)
	binary.LittleEndian.PutUint32(load[at:], uint32(n))
	f.lay(kind, page, load)
}

// sum tells the digest of a leaf climbed to a height, at width 4.
func sum(k api.Key, val string, height int) api.Digest {
	return node.Climb(4, k, 0, node.Leaf(4, k, []byte(val)), height)
}

// sameReport tells whether two reports say the same; nil and empty findings do.
func sameReport(a, b api.Report) bool {
	same := slices.Equal(a.Findings, b.Findings)
	a.Findings, b.Findings = nil, nil
	return same && fmt.Sprint(a) == fmt.Sprint(b)
}

// find is a finding, short to write.
func find(page int, why api.Errno) api.Finding { return api.Finding{Page: page, Why: why} }

// checks asks of a Check one report.
func checks(t *testing.T, promise string, image []byte, want api.Report) {
	t.Helper()
	if r, e := audit.Check(image); e != api.OK || !sameReport(r, want) {
		t.Errorf("%s: Check = %+v, %v, want %+v", promise, r, e, want)
	}
}

// finds asks what a Check finds, and that of an image that is not clean nothing else is told.
func finds(t *testing.T, promise string, image []byte, want ...api.Finding) {
	t.Helper()
	r, e := audit.Check(image)
	if e != api.OK || !slices.Equal(r.Findings, want) {
		t.Errorf("%s: Check finds %v, %v, want %v", promise, r.Findings, e, want)
	}
	if len(want) > 0 {
		refusesAt(t, promise, image, api.ErrCorrupt, 2)
	}
}

// refuses asks that Pages, Owner and Garbage refuse an image with one error, whatever is asked.
func refuses(t *testing.T, promise string, image []byte, why api.Errno) {
	t.Helper()
	for _, n := range []int{lowest, -2, -1, 0, 1, 2, 3, highest} {
		refusesAt(t, promise, image, why, n)
	}
}

// refusesAt is refuses for one number.
func refusesAt(t *testing.T, promise string, image []byte, why api.Errno, n int) {
	t.Helper()
	if l, e := audit.Pages(image, n); l != nil || e != why {
		t.Errorf("%s: Pages(%d) = %v, %v, want %v", promise, n, l, e, why)
	}
	if v, e := audit.Owner(image, n); v != 0 || e != why {
		t.Errorf("%s: Owner(%d) = %v, %v, want %v", promise, n, v, e, why)
	}
	if l, e := audit.Garbage(image, n); l != nil || e != why {
		t.Errorf("%s: Garbage(%d) = %v, %v, want %v", promise, n, l, e, why)
	}
}

// refusesAll asks the same of Check too.
func refusesAll(t *testing.T, promise string, image []byte, why api.Errno) {
	t.Helper()
	if r, e := audit.Check(image); !sameReport(r, api.Report{}) || r.Findings != nil || e != why {
		t.Errorf("%s: Check = %+v, %v, want %v", promise, r, e, why)
	}
	refuses(t, promise, image, why)
}

// pages asks for what Pages answers.
func pages(t *testing.T, promise string, image []byte, version int, why api.Errno, want ...int) {
	t.Helper()
	if l, e := audit.Pages(image, version); e != why || !slices.Equal(l, want) || e != api.OK && l != nil {
		t.Errorf("%s: Pages(%d) = %v, %v, want %v, %v", promise, version, l, e, want, why)
	}
}

// garbage asks for what Garbage answers.
func garbage(t *testing.T, promise string, image []byte, from int, why api.Errno, want ...int) {
	t.Helper()
	if l, e := audit.Garbage(image, from); e != why || !slices.Equal(l, want) || e != api.OK && l != nil {
		t.Errorf("%s: Garbage(%d) = %v, %v, want %v, %v", promise, from, l, e, want, why)
	}
}

// owner asks for what Owner answers.
func owner(t *testing.T, promise string, image []byte, page, want int, why api.Errno) {
	t.Helper()
	if v, e := audit.Owner(image, page); v != want || e != why {
		t.Errorf("%s: Owner(%d) = %d, %v, want %d, %v", promise, page, v, e, want, why)
	}
}

// entries is a plain map.
type entries map[api.Key]string

// behind tells the map behind some changes.
func (m entries) behind(cs []api.Change) entries {
	next := entries{}
	for k, v := range m {
		next[k] = v
	}
	for _, c := range cs {
		delete(next, c.Key)
		if !c.Del {
			next[c.Key] = string(c.Val)
		}
	}
	return next
}

// rising tells the keys in their order.
func (m entries) rising() (keys []api.Key) {
	for k := range m {
		keys = append(keys, k)
	}
	slices.SortFunc(keys, func(a, b api.Key) int { return bytes.Compare(a[:], b[:]) })
	return keys
}

// changes tells what leads from one map to another, keys rising.
func (m entries) changes(to entries) (cs []api.Change) {
	both := m.behind(nil)
	for k := range to {
		both[k] = ""
	}
	for _, k := range both.rising() {
		old, was := m[k]
		now, is := to[k]
		switch {
		case was && !is:
			cs = append(cs, del(k))
		case is && (!was || old != now):
			cs = append(cs, put(k, now))
		}
	}
	return cs
}

// asReport tells what Check reports of an image that is not refused.
func asReport(t *testing.T, image []byte) api.Report {
	t.Helper()
	r, e := audit.Check(image)
	if e != api.OK {
		t.Fatal(e)
	}
	return r
}
