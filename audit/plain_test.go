package audit_test

import (
	"crypto/sha256"
	"slices"
	"strings"
	"testing"

	"ledger/api"
	"ledger/audit"
	"ledger/frame"
	"ledger/index"
	"ledger/node"
)

// What follows reads the promises P17.1 to P17.11 word for word: rows are texts, what a version has is walked over anew for each version, and a finding leaves by panic. Its shape is not the program's.

// reading is what there is to know of an image.
type reading struct {
	image   []byte
	super   api.Super
	report  api.Report
	nodes   map[int]api.Node
	records map[int]api.Record
	order   []int // r(1), r(2), ..
	sums    map[string]api.Digest
	empties []api.Digest
}

// readings reads P17.1 to P17.8.
func readings(image []byte) (*reading, api.Errno) {
	x := &reading{image: image, nodes: map[int]api.Node{}, records: map[int]api.Record{}, sums: map[string]api.Digest{}}
	switch n := len(image); {
	case n%256 > 0:
		return nil, api.ErrSize
	case n < 3*256 || n > 4096*256:
		return nil, api.ErrPages
	}
	super, e := frame.Choose(image[:256], image[256:512])
	if e != api.OK {
		return nil, e
	}
	if super.Pages*256 != len(image) {
		return nil, api.ErrCorrupt
	}
	x.super = super
	x.report = api.Report{Width: super.Width, Pages: super.Pages, Mark: super.Mark, Head: super.Head}
	x.alone()
	if head, has := x.records[super.Head]; has {
		x.report.First, x.report.Last = head.First, head.Version
	}
	if x.report.Findings == nil {
		x.whole()
	}
	return x, api.OK
}

// alone reads P17.3.
func (x *reading) alone() {
	for page := range x.super.Mark {
		if why := x.onePage(page, x.image[256*page:256*page+256]); why != api.OK {
			x.report.Findings = append(x.report.Findings, find(page, why))
		}
	}
}

func (x *reading) onePage(page int, b []byte) api.Errno {
	if page < 2 {
		if strings.Trim(string(b[64:]), "\x00") != "" {
			return api.ErrFrame
		}
		return api.OK
	}
	kind, load, e := frame.Unpack(page, b)
	if e != api.OK {
		return e
	}
	if kind == 3 {
		r, e := index.Decode(load)
		if e != api.OK {
			return api.ErrRecord
		}
		x.records[page] = r
		x.order = append(x.order, page)
		x.report.Records++
		return api.OK
	}
	n, e := node.Decode(kind, load)
	if e != api.OK {
		return api.ErrNode
	}
	x.nodes[page] = n
	if kind == 1 {
		x.report.Leaves++
	} else {
		x.report.Branches++
	}
	return api.OK
}

// r tells the page of the record of a number; that of 0 is 0.
func (x *reading) r(i int) int {
	if i == 0 {
		return 0
	}
	return x.order[i-1]
}

// lastOneOff tells a number with the lowest of its binary digits that is 1 made 0.
func lastOneOff(i int) int {
	for bit := 1; ; bit *= 2 {
		if i/bit%2 == 1 {
			return i - bit
		}
	}
}

// whole reads P17.4 and P17.8.
func (x *reading) whole() {
	defer func() {
		switch p := recover().(type) {
		case nil:
		case api.Finding:
			x.report.Findings = []api.Finding{p}
		default:
			panic(p)
		}
	}()
	for i := 1; i <= len(x.order); i++ {
		x.version(i)
	}
	end := 1
	if n := len(x.order); n > 0 {
		end = x.order[n-1]
	}
	if end+1 < x.super.Mark {
		panic(find(end+1, api.ErrOrder))
	}
	if len(x.order) > 0 && x.super.Head != end {
		panic(find(end, api.ErrChain))
	}
}

// version reads P17.4 of one record.
func (x *reading) version(i int) {
	at := x.r(i)
	r, first := x.records[at], x.records[x.r(1)].First
	version := i
	if r.First != 0 {
		version = r.First + i - 1
	}
	if r.First != first || r.Version != version || r.Prev != x.r(i-1) || r.Skip != x.r(lastOneOff(i)) {
		panic(find(at, api.ErrChain))
	}
	begin := max(x.r(i-1), 1)
	g := &going{reading: x, begin: begin, ahead: x.tree(i - 1), gone: map[int]bool{}}
	if r.Root == 0 {
		if r.Sum != x.empty(256) {
			panic(find(at, api.ErrDigest))
		}
	} else {
		g.through(r.Root, at, "", r.Count, r.Sum)
	}
	for page := begin + 1; page < at; page++ {
		if !g.gone[page] {
			panic(find(page, api.ErrOrder))
		}
	}
}

// tree tells the rows of all nodes that the version of a number has, by their pages.
func (x *reading) tree(i int) map[int]string {
	all := map[int]string{}
	var walk func(page int, row string)
	walk = func(page int, row string) {
		if page == 0 {
			return
		}
		all[page] = row
		walk(x.nodes[page].Left, row+"0")
		walk(x.nodes[page].Right, row+"1")
	}
	if i > 0 {
		walk(x.records[x.r(i)].Root, "")
	}
	return all
}

// going is one version's going through.
type going struct {
	*reading
	begin int // the last old page
	ahead map[int]string
	gone  map[int]bool // the new pages that were gone through
}

// bits tells a key as a text of bits.
func bits(k api.Key) string {
	var b strings.Builder
	for i := range 256 {
		b.WriteByte('0' + k[i/8]>>(7-i%8)&1)
	}
	return b.String()
}

// through reads P17.5, in its order.
func (g *going) through(p, q int, row string, count int, stated api.Digest) {
	n, has := g.nodes[p]
	switch {
	case p >= q, !has,
		n.Kind == 1 && count != 1,
		n.Kind == 2 && count != n.LeftCount+n.RightCount,
		n.Kind == 1 && !strings.HasPrefix(bits(n.Key), row),
		n.Kind == 2 && len(row) >= 256:
		panic(find(q, api.ErrLink))
	}
	if p <= g.begin {
		if at, has := g.ahead[p]; !has || n.Kind == 2 && at != row {
			panic(find(q, api.ErrOrder))
		}
	} else {
		g.throughNew(p, row, n)
	}
	if g.digest(p, 256-len(row)) != stated {
		panic(find(q, api.ErrDigest))
	}
}

func (g *going) throughNew(p int, row string, n api.Node) {
	if n.Kind == 2 && n.Left != 0 {
		g.through(n.Left, p, row+"0", n.LeftCount, n.LeftSum)
	}
	if n.Kind == 2 && n.Right != 0 {
		g.through(n.Right, p, row+"1", n.RightCount, n.RightSum)
	}
	if p != g.begin+len(g.gone)+1 || g.gone[p] {
		panic(find(p, api.ErrOrder))
	}
	for old, at := range g.ahead {
		m := g.nodes[old]
		if m.Kind != n.Kind {
			continue
		}
		if n.Kind == 1 && m.Key == n.Key && string(m.Val) == string(n.Val) || n.Kind == 2 && at == row && m.Left == n.Left && m.Right == n.Right {
			panic(find(p, api.ErrOrder))
		}
	}
	g.gone[p] = true
}

// hashed tells a cut digest of a text.
func (x *reading) hashed(parts ...[]byte) (d api.Digest) {
	full := sha256.Sum256(slices.Concat(parts...))
	copy(d[:x.super.Width], full[:])
	return d
}

func (x *reading) empty(height int) api.Digest {
	for len(x.empties) <= height {
		if len(x.empties) == 0 {
			x.empties = append(x.empties, x.hashed([]byte{2}))
			continue
		}
		below := x.empties[len(x.empties)-1]
		x.empties = append(x.empties, x.pair(below, below))
	}
	return x.empties[height]
}

func (x *reading) pair(l, r api.Digest) api.Digest {
	return x.hashed([]byte{1}, l[:x.super.Width], r[:x.super.Width])
}

// digest tells the digest of a page at a height, as P10.2 says; of a branch from what it states.
func (x *reading) digest(page, height int) api.Digest {
	n := x.nodes[page]
	if n.Kind == 1 {
		return x.lone(n.Key, string(n.Val), height)
	}
	l, r := n.LeftSum, n.RightSum
	if n.Left == 0 {
		l = x.empty(height - 1)
	}
	if n.Right == 0 {
		r = x.empty(height - 1)
	}
	return x.pair(l, r)
}

// lone tells the digest of one key at a height.
func (x *reading) lone(k api.Key, val string, height int) api.Digest {
	name := string(k[:]) + val + string(rune(height))
	if d, has := x.sums[name]; has {
		return d
	}
	d, path := x.hashed([]byte{0}, k[:], []byte(val)), bits(k)
	for h := range height {
		if path[255-h] == '0' {
			d = x.pair(d, x.empty(h))
		} else {
			d = x.pair(x.empty(h), d)
		}
	}
	x.sums[name] = d
	return d
}

// number tells the number of a version's record, or why there is none.
func (x *reading) number(version int) (int, api.Errno) {
	first, last := x.report.First, x.report.Last
	if version == -1 {
		version = last
	}
	switch {
	case len(x.report.Findings) > 0:
		return 0, api.ErrCorrupt
	case version < -1 || version > last:
		return 0, api.ErrVersion
	case version < first:
		return 0, api.ErrGone
	case first == 0:
		return version, api.OK
	}
	return version - first + 1, api.OK
}

// used tells whether the version of a number uses a page.
func (x *reading) used(i int) map[int]bool {
	all := map[int]bool{}
	for page := range x.tree(i) {
		all[page] = true
	}
	if i > 0 {
		all[x.r(i)] = true
	}
	return all
}

// pages reads P17.9.
func (x *reading) pages(version int) ([]int, api.Errno) {
	i, e := x.number(version)
	if e != api.OK {
		return nil, e
	}
	var all []int
	used := x.used(i)
	for page := range x.super.Mark {
		if used[page] {
			all = append(all, page)
		}
	}
	return all, api.OK
}

// owner reads P17.10: the first version that uses the page.
func (x *reading) owner(page int) (int, api.Errno) {
	if len(x.report.Findings) > 0 {
		return 0, api.ErrCorrupt
	}
	for i := 1; i <= len(x.order); i++ {
		if x.used(i)[page] {
			return x.records[x.r(i)].Version, api.OK
		}
	}
	return 0, api.ErrPage
}

// garbage reads P17.11.
func (x *reading) garbage(from int) ([]int, api.Errno) {
	i, e := x.number(from)
	if e != api.OK {
		return nil, e
	}
	used := map[int]bool{}
	for ; i <= len(x.order); i++ {
		for page := range x.used(i) {
			used[page] = true
		}
	}
	var all []int
	for page := 2; page < x.super.Mark; page++ {
		if !used[page] {
			all = append(all, page)
		}
	}
	return all, api.OK
}

// asRead asks of Check what the reading says, and tells whether the image is clean.
func asRead(t *testing.T, promise string, image []byte) (*reading, bool) {
	t.Helper()
	x, why := readings(image)
	r, e := audit.Check(image)
	if why != api.OK {
		if e != why || !sameReport(r, api.Report{}) {
			t.Errorf("%s: Check = %+v, %v, want %v", promise, r, e, why)
		}
		return nil, false
	}
	if e != api.OK || !sameReport(r, x.report) {
		t.Errorf("%s: Check = %+v, %v, want %+v", promise, r, e, x.report)
	}
	return x, len(x.report.Findings) == 0
}

// allAsRead asks of all four calls what the reading says, and tells whether the image is clean.
func allAsRead(t *testing.T, promise string, image []byte) bool {
	t.Helper()
	x, clean := asRead(t, promise, image)
	if x == nil {
		_, e := readings(image)
		refusesAll(t, promise, image, e)
		return false
	}
	if !clean {
		refuses(t, promise, image, api.ErrCorrupt)
		return false
	}
	for _, v := range x.versions() {
		want, why := x.pages(v)
		pages(t, promise, image, v, why, want...)
		want, why = x.garbage(v)
		garbage(t, promise, image, v, why, want...)
	}
	for _, page := range slices.Concat([]int{lowest, -1, highest, x.super.Pages}, upTo(x.super.Mark+1)) {
		want, why := x.owner(page)
		owner(t, promise, image, page, want, why)
	}
	return true
}

// upTo tells the numbers from 0 to n.
func upTo(n int) (all []int) {
	for i := range n + 1 {
		all = append(all, i)
	}
	return all
}

// versions tells those that are asked for: all that there are, and those beside them.
func (x *reading) versions() []int {
	all := []int{lowest, -2, -1, 0, x.report.First - 1, x.report.Last + 1, highest}
	for v := x.report.First; v <= x.report.Last; v++ {
		all = append(all, v)
	}
	slices.Sort(all)
	return slices.Compact(all)
}
