package tree_test

import (
	"bytes"
	"crypto/sha256"
	"encoding/binary"
	"math/big"
	"slices"
	"testing"

	"ledger/api"
	"ledger/disk"
	"ledger/file"
	"ledger/store"
	"ledger/tree"
)

const (
	highest = int(^uint(0) >> 1)
	lowest  = -highest - 1
)

// The keys of the chapter's examples.
var (
	keyK = api.Key{}
	keyC = api.Key{31: 1}
	keyB = api.Key{128}
)

func put(k api.Key, val string) api.Change { return api.Change{Key: k, Val: []byte(val)} }

func del(k api.Key) api.Change { return api.Change{Key: k, Del: true} }

// single tells the key with one bit set: it shares just that many bits with the key of zeros.
func single(bit int) api.Key {
	var k api.Key
	k[bit/8] = 128 >> (bit % 8)
	return k
}

// flipped tells a key with one bit turned.
func flipped(k api.Key, bit int) api.Key {
	k[bit/8] ^= 128 >> (bit % 8)
	return k
}

// text makes n bytes, others for another seed.
func text(seed, n int) []byte {
	b := make([]byte, n)
	for i := range b {
		b[i] = byte(seed*37 + i*i + i>>3 + 1)
	}
	return b
}

// sumOf tells a digest, another one for each seed: none that a tree would have, and with all its bytes set.
func sumOf(seed int) api.Digest {
	d := api.Digest(sha256.Sum256(text(seed, 40)))
	for i := range d {
		d[i] |= 1
	}
	return d
}

// pathsOf keeps what bitsOf has worked out.
var pathsOf = map[api.Key]string{}

// bitsOf tells a key's path as a row of the letters 0 and 1.
func bitsOf(k api.Key) string {
	if pathsOf[k] == "" {
		row := make([]byte, 256)
		path := new(big.Int).SetBytes(k[:])
		for i := range row {
			row[i] = '0' + byte(path.Bit(255-i))
		}
		pathsOf[k] = string(row)
	}
	return pathsOf[k]
}

// keyOf tells the key that begins with a row and has zeros behind it.
func keyOf(row string) (k api.Key) {
	for i, bit := range row {
		if bit == '1' {
			k[i/8] |= 128 >> (i % 8)
		}
	}
	return k
}

// The digests, by the document's words over the library's own SHA-256.

func cutSum(w int, parts ...[]byte) api.Digest {
	sum := api.Digest(sha256.Sum256(slices.Concat(parts...)))
	clear(sum[w:])
	return sum
}

func leafSum(w int, k api.Key, val []byte) api.Digest { return cutSum(w, []byte{0}, k[:], val) }

func pairSum(w int, l, r api.Digest) api.Digest { return cutSum(w, []byte{1}, l[:w], r[:w]) }

// emptiesOf keeps what emptySum has worked out, a list a width.
var emptiesOf [33][]api.Digest

func emptySum(w, height int) api.Digest {
	if emptiesOf[w] == nil {
		emptiesOf[w] = []api.Digest{cutSum(w, []byte{2})}
		for range 256 {
			below := emptiesOf[w][len(emptiesOf[w])-1]
			emptiesOf[w] = append(emptiesOf[w], pairSum(w, below, below))
		}
	}
	return emptiesOf[w][height]
}

// climbed tells the digest that a subtree under the longer row has, if nothing is beside it, under the row of so many bits.
func climbed(w int, row string, sum api.Digest, bits int) api.Digest {
	for n := len(row); n > bits; n-- {
		beside := emptySum(w, 256-n)
		if row[n-1] == '0' {
			sum = pairSum(w, sum, beside)
		} else {
			sum = pairSum(w, beside, sum)
		}
	}
	return sum
}

// loneSum tells the digest of a subtree of this height with one key.
func loneSum(w int, k api.Key, val string, height int) api.Digest {
	return climbed(w, bitsOf(k), leafSum(w, k, []byte(val)), 256-height)
}

// loadOf tells the load of a node, whether it may be one or not.
func loadOf(n api.Node) []byte {
	if n.Kind == api.KindLeaf {
		return slices.Concat(n.Key[:], n.Val)
	}
	var b []byte
	for _, number := range []int{n.Left, n.Right, n.LeftCount, n.RightCount} {
		b = binary.LittleEndian.AppendUint32(b, uint32(number))
	}
	return slices.Concat(b, n.LeftSum[:], n.RightSum[:])
}

// rig is a disk with a store over it, and the promise that is under test: whatever fails is told under its name.
type rig struct {
	*testing.T
	promise string
	d       *disk.Disk
	s       *store.Store
}

// begun makes a disk of so many pages with an empty file of this width, and a store over it.
func begun(t *testing.T, promise string, pages, width int) *rig {
	t.Helper()
	d, e := disk.New(pages)
	if e != api.OK {
		t.Fatal(e)
	}
	if e := file.Format(d, width); e != api.OK {
		t.Fatal(e)
	}
	return over(t, promise, d, 8)
}

// over opens a disk and makes a store over it.
func over(t *testing.T, promise string, d *disk.Disk, room int) *rig {
	t.Helper()
	f, e := file.Open(d)
	if e != api.OK {
		t.Fatal(e)
	}
	s, e := store.New(f, room)
	if e != api.OK {
		t.Fatal(e)
	}
	return &rig{t, promise, d, s}
}

// width tells the width of the rig's digests.
func (r *rig) width() int { return r.s.Super().Width }

// flush lays all staged pages onto the disk.
func (r *rig) flush() {
	r.Helper()
	if e := r.s.Flush(0); e != api.OK {
		r.Fatal(e)
	}
}

// forge stages a page, whatever it says, and tells its number.
func (r *rig) forge(kind int, load []byte) int {
	r.Helper()
	page, e := r.s.Stage(kind, load)
	if e != api.OK {
		r.Fatal(e)
	}
	return page
}

// leaf forges a leaf.
func (r *rig) leaf(k api.Key, val string) int {
	r.Helper()
	return r.forge(api.KindLeaf, slices.Concat(k[:], []byte(val)))
}

// branch forges a branch of these pages and counts; its digests are none that a tree would have.
func (r *rig) branch(left, right, leftCount, rightCount int) int {
	r.Helper()
	n := api.Node{Kind: api.KindBranch, Left: left, Right: right, LeftCount: leftCount, RightCount: rightCount}
	if left != 0 {
		n.LeftSum = sumOf(2 * r.s.Next())
	}
	if right != 0 {
		n.RightSum = sumOf(2*r.s.Next() + 1)
	}
	return r.forge(api.KindBranch, loadOf(n))
}

// filler forges records up to a page's number.
func (r *rig) filler(next int) {
	r.Helper()
	for r.s.Next() < next {
		r.forge(api.KindRecord, nil)
	}
}

// read tells the node on a page by the bytes alone, and whether there is one at all.
func (r *rig) read(page int) (n api.Node, is bool) {
	kind, load, e := r.s.Load(page)
	switch {
	case e != api.OK:
		return api.Node{}, false
	case kind == api.KindLeaf && len(load) >= 32 && len(load) <= 160:
		return api.Node{Kind: kind, Key: api.Key(load[:32]), Val: load[32:]}, true
	case kind != api.KindBranch || len(load) != 80:
		return api.Node{}, false
	}
	at := func(place int) int { return int(binary.LittleEndian.Uint32(load[place:])) }
	n = api.Node{
		Kind: kind, Left: at(0), Right: at(4), LeftCount: at(8), RightCount: at(12),
		LeftSum: api.Digest(load[16:48]), RightSum: api.Digest(load[48:]),
	}
	return n, mayBe(n)
}

// mayBe tells whether a branch is one by its form (P9.2).
func mayBe(n api.Node) bool {
	side := func(page, count int, sum api.Digest) bool {
		if page == 0 {
			return count == 0 && sum == api.Digest{}
		}
		return page >= 2 && page < 4096 && count > 0
	}
	keys := n.LeftCount + n.RightCount
	return side(n.Left, n.LeftCount, n.LeftSum) && side(n.Right, n.RightCount, n.RightSum) &&
		n.Left != n.Right && keys >= 2 && keys <= 4096
}

// node tells the node on a page that has one.
func (r *rig) node(page int) api.Node {
	r.Helper()
	n, is := r.read(page)
	if !is {
		r.Fatalf("%s: page %d is no node", r.promise, page)
	}
	return n
}

// holds asks what a page carries.
func (r *rig) holds(page int, want api.Node) {
	r.Helper()
	kind, load, e := r.s.Load(page)
	if e != api.OK || kind != want.Kind || !bytes.Equal(load, loadOf(want)) {
		r.Errorf("%s: page %d: %d, %v, %v, want %d, %v", r.promise, page, kind, load, e, want.Kind, loadOf(want))
	}
}

// gets asks for a key's value.
func (r *rig) gets(root int, k api.Key, want string) {
	r.Helper()
	if val, found, e := tree.Get(r.s, root, k); string(val) != want || !found || e != api.OK {
		r.Errorf("%s: Get(%d, %x) = %q, %t, %v, want %q", r.promise, root, k, val, found, e, want)
	}
}

// getsNot asks that there is nothing under a key, or that the call is refused.
func (r *rig) getsNot(root int, k api.Key, want api.Errno) {
	r.Helper()
	if val, found, e := tree.Get(r.s, root, k); val != nil || found || e != want {
		r.Errorf("%s: Get(%d, %x) = %q, %t, %v, want nothing, %v", r.promise, root, k, val, found, e, want)
	}
}

// sums asks for a tree's digest.
func (r *rig) sums(root int, want api.Digest) {
	r.Helper()
	if sum, e := tree.Sum(r.s, root); sum != want || e != api.OK {
		r.Errorf("%s: Sum(%d) = %x, %v, want %x", r.promise, root, sum, e, want)
	}
}

// counts asks for the number of a tree's keys.
func (r *rig) counts(root, want int) {
	r.Helper()
	if keys, e := tree.Count(r.s, root); keys != want || e != api.OK {
		r.Errorf("%s: Count(%d) = %d, %v, want %d", r.promise, root, keys, e, want)
	}
}

// costs asks for the cost of a list.
func (r *rig) costs(root, want int, cs ...api.Change) {
	r.Helper()
	if cost, e := tree.Cost(r.s, root, cs); cost != want || e != api.OK {
		r.Errorf("%s: Cost(%d, %d changes) = %d, %v, want %d", r.promise, root, len(cs), cost, e, want)
	}
}

// updates asks for the page of the root behind a list, and for how many pages it costs.
func (r *rig) updates(root, want, cost int, cs ...api.Change) int {
	r.Helper()
	r.costs(root, cost, cs...)
	next := r.s.Next()
	page, e := tree.Update(r.s, root, cs)
	if page != want || e != api.OK || r.s.Next() != next+cost {
		r.Errorf("%s: Update(%d, %d changes) = %d, %v, %d staged, want %d, %d staged", r.promise, root, len(cs), page, e, r.s.Next()-next, want, cost)
	}
	return page
}

// refuses asks that Cost and Update refuse a list.
func (r *rig) refuses(root int, want api.Errno, cs ...api.Change) {
	r.Helper()
	if cost, e := tree.Cost(r.s, root, cs); cost != 0 || e != want {
		r.Errorf("%s: Cost(%d, %d changes) = %d, %v, want 0, %v", r.promise, root, len(cs), cost, e, want)
	}
	r.updatesNot(root, want, cs...)
}

// updatesNot asks that Update refuses a list and stages nothing.
func (r *rig) updatesNot(root int, want api.Errno, cs ...api.Change) {
	r.Helper()
	next := r.s.Next()
	if page, e := tree.Update(r.s, root, cs); page != 0 || e != want || r.s.Next() != next {
		r.Errorf("%s: Update(%d, %d changes) = %d, %v, %d staged, want 0, %v", r.promise, root, len(cs), page, e, r.s.Next()-next, want)
	}
}

// tellsNot asks that Sum and Count refuse a root.
func (r *rig) tellsNot(root int, want api.Errno) {
	r.Helper()
	if sum, e := tree.Sum(r.s, root); sum != (api.Digest{}) || e != want {
		r.Errorf("%s: Sum(%d) = %x, %v, want zeros, %v", r.promise, root, sum, e, want)
	}
	if keys, e := tree.Count(r.s, root); keys != 0 || e != want {
		r.Errorf("%s: Count(%d) = %d, %v, want 0, %v", r.promise, root, keys, e, want)
	}
}

// allRefuse asks that each of the five calls refuses.
func (r *rig) allRefuse(root int, want api.Errno, cs ...api.Change) {
	r.Helper()
	r.getsNot(root, keyK, want)
	r.tellsNot(root, want)
	r.refuses(root, want, cs...)
}

// unwritten asks that calls neither write nor sync nor flush, and that they leave all pages that are there as they are.
func (r *rig) unwritten(calls func()) {
	r.Helper()
	counts, super := r.d.Counts(), r.s.Super()
	first := r.pages(r.s.Next())
	calls()
	now := r.d.Counts()
	if now.Writes != counts.Writes || now.Syncs != counts.Syncs || now.Open != counts.Open || r.s.Super() != super {
		r.Errorf("%s: something was written: %+v, %+v, from %+v, %+v", r.promise, now, r.s.Super(), counts, super)
	}
	if r.s.Live() == api.OK && !slices.Equal(r.pages(2+len(first)), first) {
		r.Errorf("%s: a page that was there has changed", r.promise)
	}
}

// unstaged asks of calls that, beside that, they stage nothing.
func (r *rig) unstaged(calls func()) {
	r.Helper()
	next, staged := r.s.Next(), r.s.Staged()
	r.unwritten(calls)
	if r.s.Next() != next || r.s.Staged() != staged {
		r.Errorf("%s: next %d, %d staged, from %d, %d", r.promise, r.s.Next(), r.s.Staged(), next, staged)
	}
}

// pages tells what the pages below a number carry.
func (r *rig) pages(next int) []string {
	var all []string
	for page := 2; page < next; page++ {
		kind, load, e := r.s.Load(page)
		all = append(all, string(append([]byte{byte(kind), byte(e)}, load...)))
	}
	return all
}
