package ship_test

import (
	"bytes"
	"crypto/sha256"
	"encoding/binary"
	"hash/crc32"
	"maps"
	"slices"
	"strings"
	"sync"

	"ledger/api"
	"ledger/batch"
	"ledger/ship"
)

// What follows reads the document word for word, by plain maps and rows of letters: it is slow, and its shape is not the program's.

// pathsOf keeps what bitsOf has worked out.
var pathsOf sync.Map

// bitsOf tells a key's path as a row of the letters 0 and 1: so the order of keys is that of these texts.
func bitsOf(k api.Key) string {
	if path, has := pathsOf.Load(k); has {
		return path.(string)
	}
	row := make([]byte, 256)
	for i := range row {
		row[i] = '0' + k[i/8]>>(7-i%8)&1
	}
	pathsOf.Store(k, string(row))
	return string(row)
}

// keyOf tells the key that begins with a row and has zeros behind it.
func keyOf(row string) (k api.Key) {
	for i, bit := range row {
		if bit == '1' {
			k[i/8] |= 128 >> (i % 8)
		}
	}
	return k
}

// The digests, by the document's words over the library's own SHA-256.

func cutSum(w int, parts ...[]byte) api.Digest {
	sum := api.Digest(sha256.Sum256(slices.Concat(parts...)))
	clear(sum[w:])
	return sum
}

func pairSum(w int, l, r api.Digest) api.Digest { return cutSum(w, []byte{1}, l[:w], r[:w]) }

// emptiesOf are the digests of the empty subtrees, a list a width.
var emptiesOf = func() (all [33][257]api.Digest) {
	for w := 1; w <= 32; w++ {
		all[w][0] = cutSum(w, []byte{2})
		for h := range 256 {
			all[w][h+1] = pairSum(w, all[w][h], all[w][h])
		}
	}
	return all
}()

func emptySum(w, height int) api.Digest { return emptiesOf[w][height] }

// lone is a subtree with one key; lonesOf keeps the digests that were worked out.
type lone struct {
	w, height int
	k         api.Key
	val       string
}

var lonesOf sync.Map

// loneSum tells the digest of a subtree of this height with one key.
func loneSum(w int, k api.Key, val string, height int) api.Digest {
	place := lone{w, height, k, val}
	if sum, has := lonesOf.Load(place); has {
		return sum.(api.Digest)
	}
	path, sum := bitsOf(k), cutSum(w, []byte{0}, k[:], []byte(val))
	for h := range height {
		if path[255-h] == '0' {
			sum = pairSum(w, sum, emptySum(w, h))
		} else {
			sum = pairSum(w, emptySum(w, h), sum)
		}
	}
	lonesOf.Store(place, sum)
	return sum
}

// entries is a map as the document means it.
type entries map[api.Key]string

// behind tells the map that a list of changes leaves.
func (m entries) behind(cs []api.Change) entries {
	behind := maps.Clone(m)
	for _, c := range cs {
		if c.Del {
			delete(behind, c.Key)
		} else {
			behind[c.Key] = string(c.Val)
		}
	}
	return behind
}

// rising tells the keys in their order.
func (m entries) rising() []api.Key {
	return slices.SortedFunc(maps.Keys(m), func(a, b api.Key) int { return strings.Compare(bitsOf(a), bitsOf(b)) })
}

// list tells the entries, keys rising.
func (m entries) list() (list []api.Entry) {
	for _, k := range m.rising() {
		list = append(list, api.Entry{Key: k, Val: []byte(m[k])})
	}
	return list
}

// under tells the part of the map whose keys begin with a row.
func (m entries) under(row string) entries {
	part := entries{}
	for k, val := range m {
		if strings.HasPrefix(bitsOf(k), row) {
			part[k] = val
		}
	}
	return part
}

// root tells the map's root digest.
func (m entries) root(w int) api.Digest { return m.sum(w, "") }

// sum tells the digest of the map's subtree under a row (P10.2).
func (m entries) sum(w int, row string) api.Digest {
	part := m.under(row)
	switch len(part) {
	case 0:
		return emptySum(w, 256-len(row))
	case 1:
		for k, val := range part {
			return loneSum(w, k, val, 256-len(row))
		}
	}
	return pairSum(w, part.sum(w, row+"0"), part.sum(w, row+"1"))
}

// cost tells how many pages a commit stages that leads from one map to another, its record left aside ('How a version lies on the disk').
func cost(from, to entries) (pages int) {
	for k, val := range to {
		if old, has := from[k]; !has || old != val {
			pages++
		}
	}
	return pages + branches(from, to, "")
}

// branches tells how many rows there are from one on, of at most 255 bits, under which the later map has two keys or more and both differ.
func branches(from, to entries, row string) int {
	from, to = from.under(row), to.under(row)
	if len(row) == 256 || len(to) < 2 || maps.Equal(from, to) {
		return 0
	}
	return 1 + branches(from, to, row+"0") + branches(from, to, row+"1")
}

// diff tells the changes that lead from one map to another, keys rising.
func (m entries) diff(to entries) (cs []api.Change) {
	both := maps.Clone(m)
	maps.Copy(both, to)
	for _, k := range both.rising() {
		old, had := m[k]
		val, has := to[k]
		switch {
		case !has:
			cs = append(cs, del(k))
		case !had || old != val:
			cs = append(cs, put(k, val))
		}
	}
	return cs
}

// saga is what stands in a stream, part by part (P19.1).
type saga struct {
	letters  string
	width    int
	from, to int
	sum      api.Digest
	keys     int
	base     []line
	steps    []leap
}

// line is a key of the first map with the length that is told of its value, and the value.
type line struct {
	key    api.Key
	length int
	val    string
}

// leap is one later version: the length that is told of its batch, the batch, the root digest.
type leap struct {
	length int
	raw    string
	sum    api.Digest
}

// tell tells what a stream of these maps says, each later one made by the changes from the one ahead of it.
func tell(width, from int, maps ...entries) saga {
	s := saga{letters: "LDGS", width: width, from: from, to: from, sum: maps[0].root(width), keys: len(maps[0])}
	for _, x := range maps[0].list() {
		s.base = append(s.base, line{x.Key, len(x.Val), string(x.Val)})
	}
	for i := 1; i < len(maps); i++ {
		s = s.then(raw(maps[i-1].diff(maps[i])...), maps[i].root(width))
	}
	return s
}

// then tells the saga with one more version.
func (s saga) then(batch []byte, sum api.Digest) saga {
	s.to++
	s.steps = append(slices.Clone(s.steps), leap{len(batch), string(batch), sum})
	return s
}

// twin tells a saga that can be changed by itself.
func (s saga) twin() saga {
	s.base, s.steps = slices.Clone(s.base), slices.Clone(s.steps)
	return s
}

// body tells all bytes ahead of the sum.
func (s saga) body() []byte {
	var b bytes.Buffer
	lay := func(parts ...any) {
		for _, x := range parts {
			binary.Write(&b, binary.LittleEndian, x)
		}
	}
	lay([]byte(s.letters), uint8(s.width), uint32(s.from), uint32(s.to), s.sum[:], uint16(s.keys))
	for _, x := range s.base {
		lay(x.key[:], uint16(x.length), []byte(x.val))
	}
	for _, x := range s.steps {
		lay(uint16(x.length), []byte(x.raw), x.sum[:])
	}
	return b.Bytes()
}

// stream tells the bytes of it all.
func (s saga) stream() []byte { return sealed(s.body()) }

// sealed lays the right sum behind some bytes.
func sealed(body []byte) []byte {
	return binary.LittleEndian.AppendUint32(bytes.Clone(body), crc32.ChecksumIEEE(body))
}

// head tells what a Peek is to tell.
func (s saga) head() ship.Head { return ship.Head{Width: s.width, From: s.from, To: s.to, Sum: s.sum} }

// isBeyond tells whether a digest has bytes beyond a width.
func isBeyond(d api.Digest, width int) bool {
	return strings.Trim(string(d[width:]), "\x00") != ""
}

// hear tells what a stream says, and whether it is right by its form (P19.2).
func hear(stream []byte) (s saga, right bool) {
	if len(stream) < 4 || !bytes.Equal(sealed(stream[:len(stream)-4]), stream) {
		return s, false
	}
	b := bytes.NewBuffer(stream[:len(stream)-4])
	part := func(n int) string { return string(b.Next(n)) }
	num := func(n int) (v int) {
		for i, x := range []byte(part(n)) {
			v += int(x) << (8 * i)
		}
		return v
	}
	sum := func() (d api.Digest) {
		copy(d[:], part(32))
		return d
	}
	s.letters, s.width, s.from, s.to, s.sum, s.keys = part(4), num(1), num(4), num(4), sum(), num(2)
	if s.letters != "LDGS" || s.width < 1 || s.width > 32 || s.from > 1<<30 || s.to < s.from || s.to > 1<<30 {
		return s, false
	}
	if s.keys > 4096 || s.from == 0 && s.keys > 0 || isBeyond(s.sum, s.width) {
		return s, false
	}
	for i := 0; i < s.keys && b.Len() > 0; i++ {
		x := line{key: api.Key(sum()), length: num(2)}
		x.val = part(x.length)
		if x.length > 128 || len(x.val) < x.length || i > 0 && bitsOf(s.base[i-1].key) >= bitsOf(x.key) {
			return s, false
		}
		s.base = append(s.base, x)
	}
	for v := s.from; v < s.to && b.Len() > 0; v++ {
		x := leap{length: num(2)}
		x.raw, x.sum = part(x.length), sum()
		if _, _, e := batch.Parse([]byte(x.raw)); e != api.OK || len(x.raw) < x.length || isBeyond(x.sum, s.width) {
			return s, false
		}
		s.steps = append(s.steps, x)
	}
	// Where the bytes did not suffice for a number, a key or a digest, laying it all out makes more of them.
	return s, len(s.base) == s.keys && len(s.steps) == s.to-s.from && bytes.Equal(s.stream(), stream)
}

// maps tells the map of each version of a stream that is right by its form (P19.3).
func (s saga) maps() []entries {
	now := entries{}
	for _, x := range s.base {
		now[x.key] = x.val
	}
	all := []entries{now}
	for _, x := range s.steps {
		cs, _, e := batch.Parse([]byte(x.raw))
		if e != api.OK {
			panic(e)
		}
		now = now.behind(cs)
		all = append(all, now)
	}
	return all
}

// sums tells the root digest that the stream says for each version.
func (s saga) sums() []api.Digest {
	all := []api.Digest{s.sum}
	for _, x := range s.steps {
		all = append(all, x.sum)
	}
	return all
}

// lowestWrong tells the lowest version from one on that does not hold, -1 if all do.
func (s saga) lowestWrong(from int) int {
	sums := s.sums()
	for i, m := range s.maps() {
		if s.from+i >= from && m.root(s.width) != sums[i] {
			return s.from + i
		}
	}
	return -1
}

// needs tells the pages of all publishings of an Import, in their order: of the base, if there is one, and of each later version (P19.8).
func (s saga) needs() (pages []int) {
	before := entries{}
	for i, m := range s.maps() {
		if s.from+i > 0 {
			pages = append(pages, cost(before, m)+1)
		}
		before = m
	}
	return pages
}

// need tells how many pages an Import needs in all.
func (s saga) need() int {
	all := 2
	for _, n := range s.needs() {
		all += n
	}
	return all
}
