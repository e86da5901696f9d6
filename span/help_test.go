package span_test

import (
	"bytes"
	"crypto/sha256"
	"encoding/binary"
	"fmt"
	"maps"
	"math/big"
	"slices"
	"strings"
	"testing"

	"ledger/api"
	"ledger/disk"
	"ledger/file"
	"ledger/span"
	"ledger/store"
	"ledger/tree"
)

const (
	highest = int(^uint(0) >> 1)
	lowest  = -highest - 1
)

// The keys of the chapter's examples, and one that parts from them at once.
var (
	keyA = api.Key{}
	keyC = api.Key{31: 1}
	keyB = api.Key{128}
	keyZ = keyOf(strings.Repeat("1", 256))
	keyM = keyOf("0110100110010110")
)

func put(k api.Key, val string) api.Change { return api.Change{Key: k, Val: []byte(val)} }

func del(k api.Key) api.Change { return api.Change{Key: k, Del: true} }

// flipped tells a key with one bit turned.
func flipped(k api.Key, bit int) api.Key {
	k[bit/8] ^= 128 >> (bit % 8)
	return k
}

// text makes n bytes, others for another seed.
func text(seed, n int) []byte {
	b := make([]byte, n)
	for i := range b {
		b[i] = byte(seed*37 + i*i + i>>3 + 1)
	}
	return b
}

// sumOf tells a digest, another one for each seed: none that a tree would have, and with all its bytes set.
func sumOf(seed int) api.Digest {
	d := api.Digest(sha256.Sum256(text(seed, 40)))
	for i := range d {
		d[i] |= 1
	}
	return d
}

// pathsOf keeps what bitsOf has worked out.
var pathsOf = map[api.Key]string{}

// bitsOf tells a key's path as a row of the letters 0 and 1: so the order of keys is that of these texts.
func bitsOf(k api.Key) string {
	if path, has := pathsOf[k]; has {
		return path
	}
	row := make([]byte, 256)
	for i := range row {
		row[i] = '0' + k[i/8]>>(7-i%8)&1
	}
	pathsOf[k] = string(row)
	return string(row)
}

// keyOf tells the key that begins with a row and has zeros behind it.
func keyOf(row string) (k api.Key) {
	for i, bit := range row {
		if bit == '1' {
			k[i/8] |= 128 >> (i % 8)
		}
	}
	return k
}

// The digests, by the document's words over the library's own SHA-256.

func cutSum(w int, parts ...[]byte) api.Digest {
	sum := api.Digest(sha256.Sum256(slices.Concat(parts...)))
	clear(sum[w:])
	return sum
}

func leafSum(w int, k api.Key, val string) api.Digest {
	return cutSum(w, []byte{0}, k[:], []byte(val))
}

func pairSum(w int, l, r api.Digest) api.Digest { return cutSum(w, []byte{1}, l[:w], r[:w]) }

// emptiesOf keeps what emptySum has worked out, a list a width.
var emptiesOf [33][]api.Digest

func emptySum(w, height int) api.Digest {
	if emptiesOf[w] == nil {
		emptiesOf[w] = []api.Digest{cutSum(w, []byte{2})}
		for range 256 {
			below := emptiesOf[w][len(emptiesOf[w])-1]
			emptiesOf[w] = append(emptiesOf[w], pairSum(w, below, below))
		}
	}
	return emptiesOf[w][height]
}

// loneSum tells the digest of a subtree of this height with one key.
func loneSum(w int, k api.Key, val string, height int) api.Digest {
	path, sum := bitsOf(k), leafSum(w, k, val)
	for h := range height {
		if path[255-h] == '0' {
			sum = pairSum(w, sum, emptySum(w, h))
		} else {
			sum = pairSum(w, emptySum(w, h), sum)
		}
	}
	return sum
}

// entries is a map as the document means it.
type entries map[api.Key]string

// behind tells the map that a list of changes leaves.
func (m entries) behind(cs []api.Change) entries {
	behind := maps.Clone(m)
	for _, c := range cs {
		if c.Del {
			delete(behind, c.Key)
		} else {
			behind[c.Key] = string(c.Val)
		}
	}
	return behind
}

// rising tells the keys in their order.
func (m entries) rising() []api.Key {
	return slices.SortedFunc(maps.Keys(m), func(a, b api.Key) int { return strings.Compare(bitsOf(a), bitsOf(b)) })
}

// puts tells the list that makes the map out of nothing, in the keys' order.
func (m entries) puts() (cs []api.Change) {
	for _, k := range m.rising() {
		cs = append(cs, put(k, m[k]))
	}
	return cs
}

// under tells the part of the map whose keys begin with a row.
func (m entries) under(row string) entries {
	part := entries{}
	for k, val := range m {
		if strings.HasPrefix(bitsOf(k), row) {
			part[k] = val
		}
	}
	return part
}

// sum tells the digest of the map's subtree under a row (P10.2).
func (m entries) sum(w int, row string) api.Digest {
	part := m.under(row)
	switch len(part) {
	case 0:
		return emptySum(w, 256-len(row))
	case 1:
		for k, val := range part {
			return loneSum(w, k, val, 256-len(row))
		}
	}
	return pairSum(w, part.sum(w, row+"0"), part.sum(w, row+"1"))
}

// spanText tells the bytes of a place for a span, by the map alone and word for word (P14.1).
func (m entries) spanText(w int, row string, lo, hi api.Key) []byte {
	h, part := 256-len(row), m.under(row)
	if outside(row, lo, hi) {
		if d := part.sum(w, row); d != emptySum(w, h) {
			return sumText(d)
		}
		return noneText()
	}
	switch len(part) {
	case 0:
		return noneText()
	case 1:
		for k, val := range part {
			return loneText(k, val)
		}
	}
	l, r := part.spanText(w, row+"0", lo, hi), part.spanText(w, row+"1", lo, hi)
	switch {
	case l[0] == 0 && r[0] == 0:
		return noneText()
	case l[0] == 0 && r[0] == 2:
		return r
	case l[0] == 2 && r[0] == 0:
		return l
	}
	return pairText(l, r)
}

// proof tells the bytes that the map's tree is to give for a span.
func (m entries) proof(w int, lo, hi api.Key) []byte { return m.spanText(w, "", lo, hi) }

// root tells the root digest of the map's tree.
func (m entries) root(w int) api.Digest { return m.sum(w, "") }

// between tells the map's entries from lo to hi, keys rising.
func (m entries) between(lo, hi api.Key) (list []api.Entry) {
	for _, k := range m.rising() {
		if bitsOf(lo) <= bitsOf(k) && bitsOf(k) <= bitsOf(hi) {
			list = append(list, api.Entry{Key: k, Val: []byte(m[k])})
		}
	}
	return list
}

// outside tells whether no key of a row lies from lo to hi.
func outside(row string, lo, hi api.Key) bool {
	behind := 256 - len(row)
	low, high := row+strings.Repeat("0", behind), row+strings.Repeat("1", behind)
	return high < bitsOf(lo) || low > bitsOf(hi)
}

// moved tells the key that lies by so many behind another.
func moved(k api.Key, by int64) (to api.Key) {
	n := new(big.Int).SetBytes(k[:])
	n.Add(n, big.NewInt(by))
	n.And(n, new(big.Int).SetBytes(slices.Repeat([]byte{255}, 32)))
	n.FillBytes(to[:])
	return to
}

// The four kinds of texts.

func noneText() []byte { return []byte{0} }

func sumText(d api.Digest) []byte { return slices.Concat([]byte{1}, d[:]) }

func loneText(k api.Key, val string) []byte {
	return slices.Concat([]byte{2}, k[:], binary.LittleEndian.AppendUint16(nil, uint16(len(val))), []byte(val))
}

func pairText(l, r []byte) []byte { return slices.Concat([]byte{3}, l, r) }

// same tells whether two lists show the same; nil and empty ones do.
func same(a, b []api.Entry) bool {
	return slices.EqualFunc(a, b, func(x, y api.Entry) bool { return x.Key == y.Key && bytes.Equal(x.Val, y.Val) })
}

// told tells a list as a text.
func told(list []api.Entry) string {
	all := "["
	for _, x := range list {
		all += fmt.Sprintf(" %x %q", x.Key, x.Val)
	}
	return all + " ]"
}

// rig is a disk with a store over it, and the promise that is under test: whatever fails is told under its name.
type rig struct {
	*testing.T
	promise string
	d       *disk.Disk
	s       *store.Store
}

// begun makes a disk of so many pages with an empty file of this width, and a store over it.
func begun(t *testing.T, promise string, pages, width int) *rig {
	t.Helper()
	d, e := disk.New(pages)
	if e != api.OK {
		t.Fatal(e)
	}
	if e := file.Format(d, width); e != api.OK {
		t.Fatal(e)
	}
	return over(t, promise, d, 8)
}

// over opens a disk and makes a store over it.
func over(t *testing.T, promise string, d *disk.Disk, room int) *rig {
	t.Helper()
	f, e := file.Open(d)
	if e != api.OK {
		t.Fatal(e)
	}
	s, e := store.New(f, room)
	if e != api.OK {
		t.Fatal(e)
	}
	return &rig{t, promise, d, s}
}

// reopened makes a store over another disk that has the same image.
func (r *rig) reopened(room int) *rig {
	r.Helper()
	d, e := disk.Load(r.d.Image())
	if e != api.OK {
		r.Fatal(e)
	}
	return over(r.T, r.promise, d, room)
}

// width tells the width of the rig's digests.
func (r *rig) width() int { return r.s.Super().Width }

// update makes a tree out of another one.
func (r *rig) update(root int, cs ...api.Change) int {
	r.Helper()
	page, e := tree.Update(r.s, root, cs)
	if e != api.OK {
		r.Fatal(e)
	}
	return page
}

// grown makes a tree of a map.
func (r *rig) grown(m entries) int {
	r.Helper()
	return r.update(0, m.puts()...)
}

// flush lays all staged pages onto the disk.
func (r *rig) flush() {
	r.Helper()
	if e := r.s.Flush(0); e != api.OK {
		r.Fatal(e)
	}
}

// rewind forgets the staged pages from a number on.
func (r *rig) rewind(next int) {
	r.Helper()
	if e := r.s.Rewind(next); e != api.OK {
		r.Fatal(e)
	}
}

// forge stages a page, whatever it says, and tells its number.
func (r *rig) forge(kind int, load []byte) int {
	r.Helper()
	page, e := r.s.Stage(kind, load)
	if e != api.OK {
		r.Fatal(e)
	}
	return page
}

// leaf forges a leaf.
func (r *rig) leaf(k api.Key, val string) int {
	r.Helper()
	return r.forge(api.KindLeaf, slices.Concat(k[:], []byte(val)))
}

// stating forges a branch that states these pages, counts and digests.
func (r *rig) stating(left, right, leftCount, rightCount int, leftSum, rightSum api.Digest) int {
	r.Helper()
	var load []byte
	for _, number := range []int{left, right, leftCount, rightCount} {
		load = binary.LittleEndian.AppendUint32(load, uint32(number))
	}
	return r.forge(api.KindBranch, slices.Concat(load, leftSum[:], rightSum[:]))
}

// branch forges a branch of these pages and counts; its digests are none that a tree would have: leftOf and rightOf tell them.
func (r *rig) branch(left, right, leftCount, rightCount int) int {
	r.Helper()
	var leftSum, rightSum api.Digest
	if left != 0 {
		leftSum = leftOf(r.s.Next())
	}
	if right != 0 {
		rightSum = rightOf(r.s.Next())
	}
	return r.stating(left, right, leftCount, rightCount, leftSum, rightSum)
}

func leftOf(page int) api.Digest { return sumOf(2 * page) }

func rightOf(page int) api.Digest { return sumOf(2*page + 1) }

// chain forges branches of one child upwards from the place of a row to the one of a shorter row, and tells the page of the last.
func (r *rig) chain(page, count int, row string, bits int) int {
	r.Helper()
	for n := len(row) - 1; n >= bits; n-- {
		if row[n] == '0' {
			page = r.branch(page, 0, count, 0)
		} else {
			page = r.branch(0, page, 0, count)
		}
	}
	return page
}

// filler forges records up to a page's number.
func (r *rig) filler(next int) {
	r.Helper()
	for r.s.Next() < next {
		r.forge(api.KindRecord, nil)
	}
}

// loads tells how many loads the store has answered with a page, or tried to.
func (r *rig) loads() int {
	t := r.s.Tally()
	return t.Hits + t.Misses
}

// proves asks for a span's proof.
func (r *rig) proves(root int, lo, hi api.Key, want []byte) {
	r.Helper()
	if raw, e := span.Prove(r.s, root, lo, hi); !bytes.Equal(raw, want) || e != api.OK {
		r.Errorf("%s: Prove(%d, %x, %x) = %x, %v, want %x", r.promise, root, lo, hi, raw, e, want)
	}
}

// refuses asks that there is no proof.
func (r *rig) refuses(root int, lo, hi api.Key, why api.Errno) {
	r.Helper()
	if raw, e := span.Prove(r.s, root, lo, hi); len(raw) != 0 || e != why {
		r.Errorf("%s: Prove(%d, %x, %x) = %x, %v, want nothing, %v", r.promise, root, lo, hi, raw, e, why)
	}
}

// quiet asks that calls stage, write and sync nothing, and that they leave all pages that are there as they are (P14.2).
func (r *rig) quiet(calls func()) {
	r.Helper()
	counts, super, next, staged := r.d.Counts(), r.s.Super(), r.s.Next(), r.s.Staged()
	pages, image := r.pages(), string(r.d.Image())
	calls()
	now := r.d.Counts()
	if now.Writes != counts.Writes || now.Syncs != counts.Syncs || now.Open != counts.Open || r.s.Super() != super || string(r.d.Image()) != image {
		r.Errorf("P14.2: %s: something was written: %+v, %+v, from %+v, %+v", r.promise, now, r.s.Super(), counts, super)
	}
	if r.s.Next() != next || r.s.Staged() != staged || !slices.Equal(r.pages(), pages) {
		r.Errorf("P14.2: %s: next %d, %d staged, from %d, %d, or a page has changed", r.promise, r.s.Next(), r.s.Staged(), next, staged)
	}
}

// pages tells what all pages carry.
func (r *rig) pages() (all []string) {
	for page := 2; page < r.s.Next(); page++ {
		kind, load, e := r.s.Load(page)
		all = append(all, string(append([]byte{byte(kind), byte(e)}, load...)))
	}
	return all
}
