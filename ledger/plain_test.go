package ledger_test

import (
	"crypto/sha256"
	"encoding/binary"
	"maps"
	"slices"
	"strings"
	"sync"

	"ledger/api"
)

// What follows reads the document word for word, by plain maps and rows of letters: it is slow, and its shape is not the program's.

// pathsOf keeps what bitsOf has worked out.
var pathsOf sync.Map

// bitsOf tells a key's path as a row of the letters 0 and 1: so the order of keys is that of these texts.
func bitsOf(k api.Key) string {
	if path, has := pathsOf.Load(k); has {
		return path.(string)
	}
	row := make([]byte, 256)
	for i := range row {
		row[i] = '0' + k[i/8]>>(7-i%8)&1
	}
	pathsOf.Store(k, string(row))
	return string(row)
}

// keyOf tells the key that begins with a row and has zeros behind it.
func keyOf(row string) (k api.Key) {
	for i, bit := range row {
		if bit == '1' {
			k[i/8] |= 128 >> (i % 8)
		}
	}
	return k
}

// The digests, by the document's words over the library's own SHA-256.

func cutSum(w int, parts ...[]byte) api.Digest {
	sum := api.Digest(sha256.Sum256(slices.Concat(parts...)))
	clear(sum[w:])
	return sum
}

func pairSum(w int, l, r api.Digest) api.Digest { return cutSum(w, []byte{1}, l[:w], r[:w]) }

// emptiesOf are the digests of the empty subtrees, a list a width.
var emptiesOf = func() (all [33][257]api.Digest) {
	for w := 1; w <= 32; w++ {
		all[w][0] = cutSum(w, []byte{2})
		for h := range 256 {
			all[w][h+1] = pairSum(w, all[w][h], all[w][h])
		}
	}
	return all
}()

func emptySum(w, height int) api.Digest { return emptiesOf[w][height] }

// lone is a subtree with one key; lonesOf keeps the digests that were worked out.
type lone struct {
	w, height int
	k         api.Key
	val       string
}

var lonesOf sync.Map

// loneSum tells the digest of a subtree of this height with one key.
func loneSum(w int, k api.Key, val string, height int) api.Digest {
	place := lone{w, height, k, val}
	if sum, has := lonesOf.Load(place); has {
		return sum.(api.Digest)
	}
	path, sum := bitsOf(k), cutSum(w, []byte{0}, k[:], []byte(val))
	for h := range height {
		if path[255-h] == '0' {
			sum = pairSum(w, sum, emptySum(w, h))
		} else {
			sum = pairSum(w, emptySum(w, h), sum)
		}
	}
	lonesOf.Store(place, sum)
	return sum
}

// entries is a map as the document means it.
type entries map[api.Key]string

// behind tells the map that a list of changes leaves.
func (m entries) behind(cs []api.Change) entries {
	behind := maps.Clone(m)
	for _, c := range cs {
		if c.Del {
			delete(behind, c.Key)
		} else {
			behind[c.Key] = string(c.Val)
		}
	}
	return behind
}

// rising tells the keys in their order.
func (m entries) rising() []api.Key {
	return slices.SortedFunc(maps.Keys(m), func(a, b api.Key) int { return strings.Compare(bitsOf(a), bitsOf(b)) })
}

// under tells the part of the map whose keys begin with a row.
func (m entries) under(row string) entries {
	part := entries{}
	for k, val := range m {
		if strings.HasPrefix(bitsOf(k), row) {
			part[k] = val
		}
	}
	return part
}

// sum tells the digest of the map's subtree under a row (P10.2).
func (m entries) sum(w int, row string) api.Digest {
	part := m.under(row)
	switch len(part) {
	case 0:
		return emptySum(w, 256-len(row))
	case 1:
		for k, val := range part {
			return loneSum(w, k, val, 256-len(row))
		}
	}
	return pairSum(w, part.sum(w, row+"0"), part.sum(w, row+"1"))
}

// cost tells how many pages a commit stages that leads from one map to another, its record left aside ('How a version lies on the disk').
func cost(from, to entries) (pages int) {
	for k, val := range to {
		if old, has := from[k]; !has || old != val {
			pages++
		}
	}
	return pages + branches(from, to, "")
}

// branches tells how many rows there are from one on, of at most 255 bits, under which the later map has two keys or more and both differ.
func branches(from, to entries, row string) int {
	from, to = from.under(row), to.under(row)
	if len(row) == 256 || len(to) < 2 || maps.Equal(from, to) {
		return 0
	}
	return 1 + branches(from, to, row+"0") + branches(from, to, row+"1")
}

// prove tells the bytes of a key's proof, by the map alone (chapter 12).
func (m entries) prove(w int, k api.Key) (raw []byte) {
	if val, has := m[k]; has {
		raw = slices.Concat([]byte{1}, binary.LittleEndian.AppendUint16(nil, uint16(len(val))), []byte(val))
	} else {
		raw = []byte{0}
	}
	var bits [32]byte
	var sums []byte
	path := bitsOf(k)
	for h := range 256 {
		beside := path[:255-h] + string('0'+'1'-path[255-h])
		if d := m.sum(w, beside); d != emptySum(w, h) {
			bits[h/8] |= 1 << (h % 8)
			sums = append(sums, d[:]...)
		}
	}
	return slices.Concat(raw, bits[:], sums)
}

// outside tells whether no key of a row lies from lo to hi.
func outside(row string, lo, hi api.Key) bool {
	behind := 256 - len(row)
	low, high := row+strings.Repeat("0", behind), row+strings.Repeat("1", behind)
	return high < bitsOf(lo) || low > bitsOf(hi)
}

// span tells the bytes of a span's proof at a row, by the map alone (P14.1).
func (m entries) span(w int, row string, lo, hi api.Key) []byte {
	part := m.under(row)
	if outside(row, lo, hi) {
		if d := part.sum(w, row); d != emptySum(w, 256-len(row)) {
			return slices.Concat([]byte{1}, d[:])
		}
		return []byte{0}
	}
	switch len(part) {
	case 0:
		return []byte{0}
	case 1:
		for k, val := range part {
			return slices.Concat([]byte{2}, k[:], binary.LittleEndian.AppendUint16(nil, uint16(len(val))), []byte(val))
		}
	}
	l, r := part.span(w, row+"0", lo, hi), part.span(w, row+"1", lo, hi)
	switch {
	case l[0] == 0 && (r[0] == 0 || r[0] == 2):
		return r
	case l[0] == 2 && r[0] == 0:
		return l
	}
	return slices.Concat([]byte{3}, l, r)
}

// between tells the map's entries from lo to hi, keys rising.
func (m entries) between(lo, hi api.Key) (list []api.Entry) {
	for _, k := range m.rising() {
		if bitsOf(lo) <= bitsOf(k) && bitsOf(k) <= bitsOf(hi) {
			list = append(list, api.Entry{Key: k, Val: []byte(m[k])})
		}
	}
	return list
}

// diff tells the changes that lead from one map to another, keys rising.
func (m entries) diff(to entries) (cs []api.Change) {
	both := maps.Clone(m)
	maps.Copy(both, to)
	for _, k := range both.rising() {
		old, had := m[k]
		val, has := to[k]
		switch {
		case !has:
			cs = append(cs, del(k))
		case !had || old != val:
			cs = append(cs, put(k, val))
		}
	}
	return cs
}

// model is what a ledger is to be: plain maps, one a version.
type model struct {
	width, pages, used int
	first              int
	maps               []entries // from the version first on
	top                bool      // no version may come any more
	dead               api.Errno // what each call is refused with
	laid               *reading  // where the pages lie, if some are spoilt
}

// last tells the newest version.
func (m *model) last() int { return m.first + len(m.maps) - 1 }

// newest tells the newest version's map.
func (m *model) newest() entries { return m.maps[len(m.maps)-1] }

// number tells the version that is meant, or why it is refused.
func (m *model) number(version int) (int, api.Errno) {
	switch {
	case version == -1:
		return m.last(), api.OK
	case version < -1 || version > m.last():
		return 0, api.ErrVersion
	case version < m.first:
		return 0, api.ErrGone
	}
	return version, api.OK
}

// at tells a version's map; there is one.
func (m *model) at(version int) entries {
	v, e := m.number(version)
	if e != api.OK {
		panic(e)
	}
	return m.maps[v-m.first]
}

// firstOf tells which of several refusals is the one: the first that is not OK.
func firstOf(refusals ...api.Errno) api.Errno {
	for _, e := range refusals {
		if e != api.OK {
			return e
		}
	}
	return api.OK
}

// refuses tells an error where something holds.
func refuses(holds bool, e api.Errno) api.Errno {
	if holds {
		return e
	}
	return api.OK
}

// keyRefused tells why bytes are no key.
func keyRefused(key []byte) api.Errno { return refuses(len(key) != 32, api.ErrKey) }

// rangeRefused tells why two ends are none.
func rangeRefused(lo, hi []byte) api.Errno {
	return firstOf(keyRefused(lo), keyRefused(hi), refuses(string(lo) > string(hi), api.ErrRange))
}

// versionRefused tells why a version is none.
func (m *model) versionRefused(version int) api.Errno {
	_, e := m.number(version)
	return e
}

// spoilt tells whether some page that is looked at is a spoilt one.
func (m *model) spoilt(looked func(x *reading) []int) api.Errno {
	if m.laid == nil {
		return api.OK
	}
	for _, page := range looked(m.laid) {
		if m.laid.spoilt == page {
			return api.ErrCorrupt
		}
	}
	return api.OK
}

// keyed tells why a question for one key is refused (the order of refusals, P16.22).
func (m *model) keyed(key []byte, version int) api.Errno {
	if e := firstOf(m.dead, keyRefused(key), m.versionRefused(version)); e != api.OK {
		return e
	}
	return m.spoilt(func(x *reading) []int {
		looked, root := x.find(version)
		return append(looked, x.path(root, api.Key(key))...)
	})
}

// rooted tells why a question for a root is refused.
func (m *model) rooted(version int) api.Errno {
	if e := firstOf(m.dead, m.versionRefused(version)); e != api.OK {
		return e
	}
	return m.spoilt(func(x *reading) []int {
		looked, _ := x.find(version)
		return looked
	})
}

// spanned tells why a Span is refused.
func (m *model) spanned(lo, hi []byte, version int) api.Errno {
	if e := firstOf(m.dead, rangeRefused(lo, hi), m.versionRefused(version)); e != api.OK {
		return e
	}
	return m.spoilt(func(x *reading) []int {
		looked, root := x.find(version)
		return append(looked, x.touched(root, api.Key(lo), api.Key(hi))...)
	})
}

// scanned tells why a Scan is refused.
func (m *model) scanned(lo, hi []byte, version, limit int) api.Errno {
	if e := firstOf(m.dead, rangeRefused(lo, hi), refuses(limit < 0 || limit > 1000, api.ErrArg), m.versionRefused(version)); e != api.OK {
		return e
	}
	return m.spoilt(func(x *reading) []int {
		looked, root := x.find(version)
		return append(looked, x.scan(root, api.Key(lo), api.Key(hi), limit)...)
	})
}

// differed tells why a Diff is refused, and at which version that is told (P16.15).
func (m *model) differed(v, w int) (int, api.Errno) {
	if m.dead != api.OK {
		return v, m.dead
	}
	for _, version := range []int{v, w} {
		if e := m.versionRefused(version); e != api.OK {
			return version, e
		}
	}
	for _, version := range []int{v, w} {
		if e := m.rooted(version); e != api.OK {
			return version, e
		}
	}
	return v, m.spoilt(func(x *reading) []int {
		_, a := x.find(v)
		_, b := x.find(w)
		return x.between(a, b)
	})
}

// drafted tells why a Preview is refused, and a Commit ahead of its record (P16.8, P16.10).
func (m *model) drafted(cs []api.Change, form api.Errno) api.Errno {
	if e := firstOf(m.dead, form, refuses(m.top, api.ErrFull)); e != api.OK {
		return e
	}
	next := m.newest().behind(cs)
	pages := cost(m.newest(), next) + 1
	paths := m.spoilt(func(x *reading) []int { return x.paths(cs) })
	root := m.spoilt(func(x *reading) []int { return x.rootOf(next) })
	return firstOf(paths, refuses(m.used+pages > m.pages, api.ErrFull), root)
}

// committed tells why a Commit is refused, power left aside.
func (m *model) committed(cs []api.Change, form api.Errno) api.Errno {
	if e := m.drafted(cs, form); e != api.OK {
		return e
	}
	return m.spoilt(func(x *reading) []int { return x.add() })
}

// commit makes the next version.
func (m *model) commit(cs []api.Change) {
	next := m.newest().behind(cs)
	m.used += cost(m.newest(), next) + 1
	m.maps = append(m.maps, next)
	m.top = m.top || m.last() == 1<<30
}

// info tells what Info is to tell.
func (m *model) info() api.Info {
	return api.Info{
		Width: m.width, First: m.first, Last: m.last(), Used: m.used, Pages: m.pages,
		Keys: len(m.newest()), Sum: m.newest().sum(m.width, ""),
	}
}

// twin tells a model that goes its own way from here.
func (m *model) twin() *model {
	other := *m
	other.maps = slices.Clone(m.maps)
	return &other
}
