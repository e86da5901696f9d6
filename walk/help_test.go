package walk_test

import (
	"encoding/binary"
	"fmt"
	"maps"
	"math/big"
	"slices"
	"strings"
	"testing"

	"ledger/api"
	"ledger/disk"
	"ledger/file"
	"ledger/store"
	"ledger/tree"
	"ledger/walk"
)

const (
	highest = int(^uint(0) >> 1)
	lowest  = -highest - 1
)

// The keys of the chapter's examples, and the highest one.
var (
	keyA = api.Key{}
	keyB = api.Key{128}
	keyC = api.Key{31: 1}
	keyZ = keyOf(strings.Repeat("1", 256))
)

func put(k api.Key, val string) api.Change { return api.Change{Key: k, Val: []byte(val)} }

func del(k api.Key) api.Change { return api.Change{Key: k, Del: true} }

// flipped tells a key with one bit turned.
func flipped(k api.Key, bit int) api.Key {
	k[bit/8] ^= 128 >> (bit % 8)
	return k
}

// moved tells the key that is so much higher or lower; past an end it is the end.
func moved(k api.Key, by int64) api.Key {
	n := new(big.Int).SetBytes(k[:])
	n.Add(n, big.NewInt(by))
	if n.Sign() < 0 {
		return keyA
	}
	if n.BitLen() > 256 {
		return keyZ
	}
	n.FillBytes(k[:])
	return k
}

// pathsOf keeps what bitsOf has worked out.
var pathsOf = map[api.Key]string{}

// bitsOf tells a key's path as a row of the letters 0 and 1: so the order of keys is that of these texts.
func bitsOf(k api.Key) string {
	if pathsOf[k] == "" {
		pathsOf[k] = fmt.Sprintf("%0256b", new(big.Int).SetBytes(k[:]))
	}
	return pathsOf[k]
}

// keyOf tells the key that begins with a row and has zeros behind it.
func keyOf(row string) (k api.Key) {
	for i, bit := range row {
		if bit == '1' {
			k[i/8] |= 128 >> (i % 8)
		}
	}
	return k
}

// text makes n bytes, others for another seed.
func text(seed, n int) []byte {
	b := make([]byte, n)
	for i := range b {
		b[i] = byte(seed*37 + i*i + i>>3 + 1)
	}
	return b
}

// entries is a map as the document means it.
type entries map[api.Key]string

// behind tells the map that a list of changes leaves.
func (m entries) behind(cs []api.Change) entries {
	behind := maps.Clone(m)
	for _, c := range cs {
		if c.Del {
			delete(behind, c.Key)
		} else {
			behind[c.Key] = string(c.Val)
		}
	}
	return behind
}

// rising tells the keys in their order.
func (m entries) rising() []api.Key {
	return slices.SortedFunc(maps.Keys(m), func(a, b api.Key) int { return strings.Compare(bitsOf(a), bitsOf(b)) })
}

// puts tells the list that makes the map out of nothing, in the keys' order.
func (m entries) puts() (cs []api.Change) {
	for _, k := range m.rising() {
		cs = append(cs, put(k, m[k]))
	}
	return cs
}

// between tells the entries with keys from lo to hi, in their order.
func (m entries) between(lo, hi api.Key) (list []api.Entry) {
	for _, k := range m.rising() {
		if bitsOf(k) >= bitsOf(lo) && bitsOf(k) <= bitsOf(hi) {
			list = append(list, api.Entry{Key: k, Val: []byte(m[k])})
		}
	}
	return list
}

// to tells the changes that lead to another map, in rising order.
func (m entries) to(other entries) (cs []api.Change) {
	all := maps.Clone(m)
	maps.Copy(all, other)
	for _, k := range all.rising() {
		was, had := m[k]
		is, has := other[k]
		switch {
		case !has:
			cs = append(cs, del(k))
		case !had || was != is:
			cs = append(cs, put(k, is))
		}
	}
	return cs
}

// told tells a list of entries as a text.
func told(list []api.Entry) string {
	var b strings.Builder
	for _, x := range list {
		fmt.Fprintf(&b, "%x=%q ", x.Key, x.Val)
	}
	return b.String()
}

// toldChanges tells a list of changes as a text: of a delete also a value, which should not be there.
func toldChanges(list []api.Change) string {
	var b strings.Builder
	for _, c := range list {
		fmt.Fprintf(&b, "%x %t=%q ", c.Key, c.Del, c.Val)
	}
	return b.String()
}

// rig is a disk with a store over it, and the promise that is under test: whatever fails is told under its name.
type rig struct {
	*testing.T
	promise string
	d       *disk.Disk
	s       *store.Store
}

// begun makes a disk of so many pages with an empty file, and a store over it.
func begun(t *testing.T, promise string, pages int) *rig {
	t.Helper()
	d, e := disk.New(pages)
	if e != api.OK {
		t.Fatal(e)
	}
	if e := file.Format(d, 4); e != api.OK {
		t.Fatal(e)
	}
	return over(t, promise, d, 8)
}

// over opens a disk and makes a store over it.
func over(t *testing.T, promise string, d *disk.Disk, room int) *rig {
	t.Helper()
	f, e := file.Open(d)
	if e != api.OK {
		t.Fatal(e)
	}
	s, e := store.New(f, room)
	if e != api.OK {
		t.Fatal(e)
	}
	return &rig{t, promise, d, s}
}

// chapter makes the store of the chapter's examples: the trees 4 (A, B) and 261 (A, B, C).
func chapter(t *testing.T, promise string) *rig {
	t.Helper()
	r := begun(t, promise, 600)
	if root := r.update(0, put(keyA, "a"), put(keyB, "b")); root != 4 {
		t.Fatal(root)
	}
	if root := r.update(4, put(keyC, "c")); root != 261 {
		t.Fatal(root)
	}
	return r
}

// reopened makes a store over another disk that has the same image.
func (r *rig) reopened(room int) *rig {
	r.Helper()
	d, e := disk.Load(r.d.Image())
	if e != api.OK {
		r.Fatal(e)
	}
	return over(r.T, r.promise, d, room)
}

// update makes a tree out of another one.
func (r *rig) update(root int, cs ...api.Change) int {
	r.Helper()
	page, e := tree.Update(r.s, root, cs)
	if e != api.OK {
		r.Fatal(e)
	}
	return page
}

// flush lays all staged pages onto the disk.
func (r *rig) flush() {
	r.Helper()
	if e := r.s.Flush(0); e != api.OK {
		r.Fatal(e)
	}
}

// rewind forgets the staged pages from a number on.
func (r *rig) rewind(next int) {
	r.Helper()
	if e := r.s.Rewind(next); e != api.OK {
		r.Fatal(e)
	}
}

// forge stages a page, whatever it says, and tells its number.
func (r *rig) forge(kind int, load []byte) int {
	r.Helper()
	page, e := r.s.Stage(kind, load)
	if e != api.OK {
		r.Fatal(e)
	}
	return page
}

// leaf forges a leaf.
func (r *rig) leaf(k api.Key, val string) int {
	r.Helper()
	return r.forge(api.KindLeaf, slices.Concat(k[:], []byte(val)))
}

// branch forges a branch of these pages and counts; its digests are none that a tree would have.
func (r *rig) branch(left, right, leftCount, rightCount int) int {
	r.Helper()
	var load []byte
	for _, number := range []int{left, right, leftCount, rightCount} {
		load = binary.LittleEndian.AppendUint32(load, uint32(number))
	}
	for _, page := range []int{left, right} {
		if page == 0 {
			load = append(load, make([]byte, 32)...)
		} else {
			load = append(load, text(page, 32)...)
		}
	}
	return r.forge(api.KindBranch, load)
}

// chain forges branches of one child upwards from the place of a row to the one of a shorter row, and tells the page of the last.
func (r *rig) chain(page, count int, row string, bits int) int {
	r.Helper()
	for n := len(row) - 1; n >= bits; n-- {
		if row[n] == '0' {
			page = r.branch(page, 0, count, 0)
		} else {
			page = r.branch(0, page, 0, count)
		}
	}
	return page
}

// filler forges records up to a page's number.
func (r *rig) filler(next int) {
	r.Helper()
	for r.s.Next() < next {
		r.forge(api.KindRecord, nil)
	}
}

// loads tells how many loads the store has answered with a page, or tried to.
func (r *rig) loads() int {
	t := r.s.Tally()
	return t.Hits + t.Misses
}

// given goes through all that a Walker gives.
func given(w *walk.Walker) (list []api.Entry, e api.Errno) {
	for x := range w.All() {
		list = append(list, x)
	}
	return list, w.Err()
}

// gives asks for the entries from a key on, by their values.
func (r *rig) gives(root int, k api.Key, want string, why api.Errno) {
	r.Helper()
	list, e := given(walk.From(r.s, root, k))
	if vals(list) != want || e != why {
		r.Errorf("%s: From(%d, %x) gives %q, Err %v, want %q, %v", r.promise, root, k, vals(list), e, want, why)
	}
}

// vals tells the values of entries, one behind the other.
func vals(list []api.Entry) (all string) {
	for _, x := range list {
		all += string(x.Val)
	}
	return all
}

// scans asks for the entries of a scan, by their values.
func (r *rig) scans(root int, lo, hi api.Key, limit int, want string, more bool, why api.Errno) {
	r.Helper()
	list, goesOn, e := walk.Scan(r.s, root, lo, hi, limit)
	if vals(list) != want || goesOn != more || e != why {
		r.Errorf("%s: Scan(%d, %x, %x, %d) = %q, %t, %v, want %q, %t, %v", r.promise, root, lo, hi, limit, vals(list), goesOn, e, want, more, why)
	}
}

// differs asks for the changes between two trees.
func (r *rig) differs(a, b int, why api.Errno, want ...api.Change) {
	r.Helper()
	list, e := walk.Between(r.s, a, b)
	if toldChanges(list) != toldChanges(want) || e != why {
		r.Errorf("%s: Between(%d, %d) = %s, %v, want %s, %v", r.promise, a, b, toldChanges(list), e, toldChanges(want), why)
	}
}

// differsBy asks for the changes between two trees, and for how many pages are looked at for them.
func (r *rig) differsBy(a, b, loads int, want ...api.Change) {
	r.Helper()
	before := r.loads()
	r.differs(a, b, api.OK, want...)
	if n := r.loads() - before; n != loads {
		r.Errorf("%s: Between(%d, %d) loads %d pages, want %d", r.promise, a, b, n, loads)
	}
}

// ranks asks how many keys are below one.
func (r *rig) ranks(root int, k api.Key, want int, why api.Errno) {
	r.Helper()
	if n, e := walk.Rank(r.s, root, k); n != want || e != why {
		r.Errorf("%s: Rank(%d, %x) = %d, %v, want %d, %v", r.promise, root, k, n, e, want, why)
	}
}

// has asks which entry has so many ahead of it.
func (r *rig) has(root, i int, k api.Key, want string) {
	r.Helper()
	if x, e := walk.At(r.s, root, i); x.Key != k || string(x.Val) != want || e != api.OK {
		r.Errorf("%s: At(%d, %d) = %x %q, %v, want %x %q", r.promise, root, i, x.Key, x.Val, e, k, want)
	}
}

// hasNot asks that there is no such entry, or that the call is refused.
func (r *rig) hasNot(root, i int, why api.Errno) {
	r.Helper()
	if x, e := walk.At(r.s, root, i); x.Key != (api.Key{}) || x.Val != nil || e != why {
		r.Errorf("%s: At(%d, %d) = %x %q, %v, want nothing, %v", r.promise, root, i, x.Key, x.Val, e, why)
	}
}

// refused asks that each call refuses a root that is looked at, with right arguments otherwise.
func (r *rig) refused(root int, why api.Errno) {
	r.Helper()
	r.gives(root, keyA, "", why)
	r.scans(root, keyA, keyZ, 5, "", false, why)
	r.differs(root, 0, why)
	r.differs(0, root, why)
	r.ranks(root, keyA, 0, why)
	r.hasNot(root, 0, why)
}

// quiet asks that calls stage, write and sync nothing, and that they leave all pages that are there as they are (P11.12).
func (r *rig) quiet(calls func()) {
	r.Helper()
	counts, super, next, staged := r.d.Counts(), r.s.Super(), r.s.Next(), r.s.Staged()
	pages, image := r.pages(), string(r.d.Image())
	calls()
	now := r.d.Counts()
	if now.Writes != counts.Writes || now.Syncs != counts.Syncs || now.Open != counts.Open || r.s.Super() != super || string(r.d.Image()) != image {
		r.Errorf("%s: P11.12: something was written: %+v, %+v, from %+v, %+v", r.promise, now, r.s.Super(), counts, super)
	}
	if r.s.Next() != next || r.s.Staged() != staged || !slices.Equal(r.pages(), pages) {
		r.Errorf("%s: P11.12: next %d, %d staged, from %d, %d, or a page has changed", r.promise, r.s.Next(), r.s.Staged(), next, staged)
	}
}

// pages tells what all pages carry.
func (r *rig) pages() (all []string) {
	for page := 2; page < r.s.Next(); page++ {
		kind, load, e := r.s.Load(page)
		all = append(all, string(append([]byte{byte(kind), byte(e)}, load...)))
	}
	return all
}
