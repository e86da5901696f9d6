package client_test

import (
	"bytes"
	"crypto/sha256"
	"encoding/binary"
	"fmt"
	"maps"
	"math/big"
	"slices"
	"strings"
	"testing"

	"ledger/api"
	"ledger/disk"
	"ledger/file"
	"ledger/proof"
	"ledger/store"
	"ledger/tree"
)

const (
	highest = int(^uint(0) >> 1)
	lowest  = -highest - 1
)

// The keys of the chapter's examples, one that parts from both at once, and the highest one.
var (
	keyK = api.Key{}
	keyC = api.Key{31: 1}
	keyB = api.Key{128}
	keyZ = keyOf(strings.Repeat("1", 256))
	keyM = keyOf("0110100110010110")
)

func put(k api.Key, val string) api.Change { return api.Change{Key: k, Val: []byte(val)} }

func del(k api.Key) api.Change { return api.Change{Key: k, Del: true} }

// flipped tells a key with one bit turned.
func flipped(k api.Key, bit int) api.Key {
	k[bit/8] ^= 128 >> (bit % 8)
	return k
}

// text makes n bytes, others for another seed.
func text(seed, n int) []byte {
	b := make([]byte, n)
	for i := range b {
		b[i] = byte(seed*37 + i*i + i>>3 + 1)
	}
	return b
}

// sumOf tells a digest of a width, another one for each seed; none of its bytes that count is zero.
func sumOf(w, seed int) (d api.Digest) {
	sum := sha256.Sum256(binary.LittleEndian.AppendUint32(nil, uint32(seed)))
	for i := range w {
		d[i] = sum[i] | 1
	}
	return d
}

// pathsOf keeps what bitsOf has worked out.
var pathsOf = map[api.Key]string{}

// bitsOf tells a key's path as a row of the letters 0 and 1: so the order of keys is that of these texts.
func bitsOf(k api.Key) string {
	if pathsOf[k] == "" {
		pathsOf[k] = fmt.Sprintf("%0256b", new(big.Int).SetBytes(k[:]))
	}
	return pathsOf[k]
}

// keyOf tells the key that begins with a row and has zeros behind it.
func keyOf(row string) (k api.Key) {
	for i, bit := range row {
		if bit == '1' {
			k[i/8] |= 128 >> (i % 8)
		}
	}
	return k
}

// shared tells how many first bits two keys share.
func shared(a, b api.Key) (n int) {
	for n < 256 && bitsOf(a)[n] == bitsOf(b)[n] {
		n++
	}
	return n
}

// The digests, by the document's words over the library's own SHA-256.

func cutSum(w int, parts ...[]byte) api.Digest {
	sum := api.Digest(sha256.Sum256(slices.Concat(parts...)))
	clear(sum[w:])
	return sum
}

func leafSum(w int, k api.Key, val string) api.Digest {
	return cutSum(w, []byte{0}, k[:], []byte(val))
}

func pairSum(w int, l, r api.Digest) api.Digest { return cutSum(w, []byte{1}, l[:w], r[:w]) }

// emptiesOf keeps what emptySum has worked out, a list a width.
var emptiesOf [33][]api.Digest

func emptySum(w, height int) api.Digest {
	if emptiesOf[w] == nil {
		emptiesOf[w] = []api.Digest{cutSum(w, []byte{2})}
		for range 256 {
			below := emptiesOf[w][len(emptiesOf[w])-1]
			emptiesOf[w] = append(emptiesOf[w], pairSum(w, below, below))
		}
	}
	return emptiesOf[w][height]
}

// loneSum tells the digest of a subtree of this height with one key.
func loneSum(w int, k api.Key, val string, height int) api.Digest {
	path, sum := bitsOf(k), leafSum(w, k, val)
	for h := range height {
		if path[255-h] == '0' {
			sum = pairSum(w, sum, emptySum(w, h))
		} else {
			sum = pairSum(w, emptySum(w, h), sum)
		}
	}
	return sum
}

// entries is a map as the document means it.
type entries map[api.Key]string

// behind tells the map that a list of changes leaves.
func (m entries) behind(cs ...api.Change) entries {
	behind := maps.Clone(m)
	for _, c := range cs {
		if c.Del {
			delete(behind, c.Key)
		} else {
			behind[c.Key] = string(c.Val)
		}
	}
	return behind
}

// rising tells the keys in their order.
func (m entries) rising() []api.Key {
	return slices.SortedFunc(maps.Keys(m), func(a, b api.Key) int { return strings.Compare(bitsOf(a), bitsOf(b)) })
}

// puts tells the list that makes the map out of nothing, in the keys' order.
func (m entries) puts() (cs []api.Change) {
	for _, k := range m.rising() {
		cs = append(cs, put(k, m[k]))
	}
	return cs
}

// under tells the part of the map whose keys begin with a row.
func (m entries) under(row string) entries {
	part := entries{}
	for k, val := range m {
		if strings.HasPrefix(bitsOf(k), row) {
			part[k] = val
		}
	}
	return part
}

// sum tells the digest of the map's subtree under a row (P10.2).
func (m entries) sum(w int, row string) api.Digest {
	part := m.under(row)
	switch len(part) {
	case 0:
		return emptySum(w, 256-len(row))
	case 1:
		for k, val := range part {
			return loneSum(w, k, val, 256-len(row))
		}
	}
	return pairSum(w, part.sum(w, row+"0"), part.sum(w, row+"1"))
}

// root tells the map's root.
func (m entries) root(w int) api.Digest { return m.sum(w, "") }

// proof tells the proof for a key of the map, by the map alone (P12.2, P12.4).
func (m entries) proof(w int, k api.Key) (p api.Proof) {
	if val, has := m[k]; has {
		p.Found, p.Val = true, []byte(val)
	}
	for h := range 256 {
		row := bitsOf(flipped(k, 255-h))[:256-h]
		if sum := m.sum(w, row); sum != emptySum(w, h) {
			p.Bits[h/8] |= 1 << (h % 8)
			p.Sums = append(p.Sums, sum)
		}
	}
	return p
}

// raw tells the bytes of that proof.
func (m entries) raw(w int, k api.Key) []byte { return rawOf(m.proof(w, k)) }

// raws tells the bytes of the proofs for the keys of some changes.
func (m entries) raws(w int, cs ...api.Change) (raws [][]byte) {
	for _, c := range cs {
		raws = append(raws, m.raw(w, c.Key))
	}
	return raws
}

// answer tells what the map holds under a key.
func (m entries) answer(k api.Key) api.Answer {
	val, has := m[k]
	if !has {
		return api.Answer{}
	}
	return api.Answer{Found: true, Val: []byte(val)}
}

// bitsAt tells the bits of some heights.
func bitsAt(hs ...int) (bits [32]byte) {
	for _, h := range hs {
		bits[h/8] |= 1 << (h % 8)
	}
	return bits
}

// there tells a proof of a value, notThere one of nothing, each with the digests of some rising heights.
func there(val string, hs []int, sums ...api.Digest) api.Proof {
	return api.Proof{Found: true, Val: []byte(val), Bits: bitsAt(hs...), Sums: sums}
}

func notThere(hs []int, sums ...api.Digest) api.Proof {
	return api.Proof{Bits: bitsAt(hs...), Sums: sums}
}

// rawOf tells the bytes of a proof, by the document's words alone (P12.8).
func rawOf(p api.Proof) []byte {
	raw := []byte{0}
	if p.Found {
		raw = append(binary.LittleEndian.AppendUint16([]byte{1}, uint16(len(p.Val))), p.Val...)
	}
	raw = append(raw, p.Bits[:]...)
	for _, sum := range p.Sums {
		raw = append(raw, sum[:]...)
	}
	return raw
}

// sameAnswer tells whether two answers are one; nil and empty values mean the same.
func sameAnswer(a, b api.Answer) bool { return a.Found == b.Found && bytes.Equal(a.Val, b.Val) }

// heights tells all heights below the root's.
func heights() (hs []int) {
	for h := range 256 {
		hs = append(hs, h)
	}
	return hs
}

// full tells a proof with all 256 digests, none of them an empty subtree's at its height.
func full(w, seed int) api.Proof {
	p := there(string(text(seed, 128)), heights())
	for h := range 256 {
		sum := sumOf(w, seed+h)
		for next := seed + 1000; sum == emptySum(w, h); next++ {
			sum = sumOf(w, next)
		}
		p.Sums = append(p.Sums, sum)
	}
	return p
}

// rig is a store over a disk.
type rig struct {
	*testing.T
	s *store.Store
}

// begun makes a disk of so many pages with an empty file of this width, and a store over it.
func begun(t *testing.T, pages, width int) *rig {
	t.Helper()
	d, e := disk.New(pages)
	if e != api.OK {
		t.Fatal(e)
	}
	if e := file.Format(d, width); e != api.OK {
		t.Fatal(e)
	}
	f, e := file.Open(d)
	if e != api.OK {
		t.Fatal(e)
	}
	s, e := store.New(f, 8)
	if e != api.OK {
		t.Fatal(e)
	}
	return &rig{t, s}
}

// update makes a tree out of another one.
func (r *rig) update(root int, cs ...api.Change) int {
	r.Helper()
	page, e := tree.Update(r.s, root, cs)
	if e != api.OK {
		r.Fatal(e)
	}
	return page
}

// sum tells a tree's root digest.
func (r *rig) sum(root int) api.Digest {
	r.Helper()
	sum, e := tree.Sum(r.s, root)
	if e != api.OK {
		r.Fatal(e)
	}
	return sum
}

// answer tells what a tree holds under a key.
func (r *rig) answer(root int, k api.Key) api.Answer {
	r.Helper()
	val, found, e := tree.Get(r.s, root, k)
	if e != api.OK {
		r.Fatal(e)
	}
	return api.Answer{Found: found, Val: val}
}

// raw tells the bytes of the proof that layer 12 makes.
func (r *rig) raw(root int, k api.Key) []byte {
	r.Helper()
	p, e := proof.Prove(r.s, root, k)
	if e != api.OK {
		r.Fatal(e)
	}
	raw, e := proof.Encode(p)
	if e != api.OK {
		r.Fatal(e)
	}
	return raw
}

// raws tells the bytes of the proofs for the keys of some changes.
func (r *rig) raws(root int, cs ...api.Change) (raws [][]byte) {
	r.Helper()
	for _, c := range cs {
		raws = append(raws, r.raw(root, c.Key))
	}
	return raws
}
