package witness_test

import (
	"bytes"
	"crypto/sha256"
	"encoding/binary"
	"fmt"
	"maps"
	"math/big"
	"math/rand"
	"slices"
	"strings"
	"sync"
	"testing"

	"ledger/api"
	"ledger/disk"
	"ledger/ledger"
)

const (
	highest = int(^uint(0) >> 1)
	lowest  = -highest - 1
)

// The keys of the chapter's examples, one that parts from all of them high up, and the highest one.
var (
	keyK = api.Key{}
	keyC = api.Key{31: 1}
	keyB = api.Key{128}
	keyZ = keyOf(strings.Repeat("1", 256))
	keyM = keyOf("0110100110010110")
)

func put(k api.Key, val string) api.Change { return api.Change{Key: k, Val: []byte(val)} }

func del(k api.Key) api.Change { return api.Change{Key: k, Del: true} }

// flipped tells a key with one bit turned.
func flipped(k api.Key, bit int) api.Key {
	k[bit/8] ^= 128 >> (bit % 8)
	return k
}

// numbered tells a key that begins with a number.
func numbered(n int) api.Key { return api.Key{byte(n >> 8), byte(n)} }

// text makes n bytes, others for another seed.
func text(seed, n int) string {
	b := make([]byte, n)
	for i := range b {
		b[i] = byte(seed*37 + i*i + i>>3 + 1)
	}
	return string(b)
}

// some tells the beginning of what is told of a value.
func some(v any) string {
	s := fmt.Sprint(v)
	return s[:min(len(s), 400)]
}

// drawn tells a source of numbers that is the same each time.
func drawn(seed int) *rand.Rand { return rand.New(rand.NewSource(int64(seed))) }

// shuffled tells the same elements in another order.
func shuffled[T any](rnd *rand.Rand, list []T) []T {
	list = slices.Clone(list)
	rnd.Shuffle(len(list), func(i, j int) { list[i], list[j] = list[j], list[i] })
	return list
}

// sumOf tells a digest of a width, another one for each seed.
func sumOf(w, seed int) (d api.Digest) {
	sum := sha256.Sum256(binary.LittleEndian.AppendUint32(nil, uint32(seed)))
	copy(d[:w], sum[:])
	return d
}

// pathsOf keeps what bitsOf has worked out.
var pathsOf sync.Map

// bitsOf tells a key's path as a row of the letters 0 and 1: so the order of keys is that of these texts.
func bitsOf(k api.Key) string {
	row, is := pathsOf.Load(k)
	if !is {
		row = fmt.Sprintf("%0256b", new(big.Int).SetBytes(k[:]))
		pathsOf.Store(k, row)
	}
	return row.(string)
}

// keyOf tells the key that begins with a row and has zeros behind it.
func keyOf(row string) (k api.Key) {
	for i, bit := range row {
		if bit == '1' {
			k[i/8] |= 128 >> (i % 8)
		}
	}
	return k
}

// rowBeside tells the row of the neighbour of a height of a key (P22.1).
func rowBeside(k api.Key, height int) string {
	row, at := bitsOf(k), 255-height
	if row[at] == '0' {
		return row[:at] + "1"
	}
	return row[:at] + "0"
}

// inOrder tells keys in rising order.
func inOrder(keys []api.Key) []api.Key {
	keys = slices.Clone(keys)
	slices.SortFunc(keys, func(a, b api.Key) int { return bytes.Compare(a[:], b[:]) })
	return keys
}

// under tells those of some keys that begin with a row.
func under(keys []api.Key, row string) (here []api.Key) {
	for _, k := range keys {
		if strings.HasPrefix(bitsOf(k), row) {
			here = append(here, k)
		}
	}
	return here
}

// halves tells those of some keys that have a 0 at a bit, and those that have a 1.
func halves(keys []api.Key, bit int) (zeros, ones []api.Key) {
	for _, k := range keys {
		if k[bit/8]&(128>>(bit%8)) == 0 {
			zeros = append(zeros, k)
		} else {
			ones = append(ones, k)
		}
	}
	return zeros, ones
}

// The digests, by the document's words over the library's own SHA-256.

func cutSum(w int, parts ...[]byte) api.Digest {
	sum := api.Digest(sha256.Sum256(slices.Concat(parts...)))
	clear(sum[w:])
	return sum
}

func leafSum(w int, k api.Key, val string) api.Digest {
	return cutSum(w, []byte{0}, k[:], []byte(val))
}

func pairSum(w int, l, r api.Digest) api.Digest { return cutSum(w, []byte{1}, l[:w], r[:w]) }

// emptiesOf keeps what emptySum has worked out, an array a width.
var emptiesOf sync.Map

func emptySum(w, height int) api.Digest {
	if all, is := emptiesOf.Load(w); is {
		return all.(*[257]api.Digest)[height]
	}
	var all [257]api.Digest
	all[0] = cutSum(w, []byte{2})
	for h := range 256 {
		all[h+1] = pairSum(w, all[h], all[h])
	}
	emptiesOf.Store(w, &all)
	return all[height]
}

// besideSum tells the digest one height above a subtree of this height that lies on a key's path beside another one.
func besideSum(w int, k api.Key, height int, sum, beside api.Digest) api.Digest {
	if bitsOf(k)[255-height] == '0' {
		return pairSum(w, sum, beside)
	}
	return pairSum(w, beside, sum)
}

// loneSum tells the digest of a subtree of this height with one key.
func loneSum(w int, k api.Key, val string, height int) api.Digest {
	sum := leafSum(w, k, val)
	for h := range height {
		sum = besideSum(w, k, h, sum, emptySum(w, h))
	}
	return sum
}

// entries is a map as the document means it.
type entries map[api.Key]string

// behind tells the map that a list of changes leaves.
func (m entries) behind(cs ...api.Change) entries {
	behind := maps.Clone(m)
	for _, c := range cs {
		if c.Del {
			delete(behind, c.Key)
		} else {
			behind[c.Key] = string(c.Val)
		}
	}
	return behind
}

// rising tells the keys in their order.
func (m entries) rising() []api.Key { return inOrder(slices.Collect(maps.Keys(m))) }

// puts tells the list that makes the map out of nothing, in the keys' order.
func (m entries) puts() (cs []api.Change) {
	for _, k := range m.rising() {
		cs = append(cs, put(k, m[k]))
	}
	return cs
}

// answer tells what the map holds under a key.
func (m entries) answer(k api.Key) api.Answer {
	val, has := m[k]
	if !has {
		return api.Answer{}
	}
	return api.Answer{Found: true, Val: []byte(val)}
}

// sum tells the digest of the map's subtree under a row (P10.2).
func (m entries) sum(w int, row string) api.Digest {
	return m.sumOfKeys(w, row, under(m.rising(), row))
}

// root tells the map's root.
func (m entries) root(w int) api.Digest { return m.sum(w, "") }

// sumOfKeys tells the digest of a subtree of which these are the keys.
func (m entries) sumOfKeys(w int, row string, keys []api.Key) api.Digest {
	switch len(keys) {
	case 0:
		return emptySum(w, 256-len(row))
	case 1:
		return loneSum(w, keys[0], m[keys[0]], 256-len(row))
	}
	l, r := halves(keys, len(row))
	return pairSum(w, m.sumOfKeys(w, row+"0", l), m.sumOfKeys(w, row+"1", r))
}

// raw tells the bytes of the witness for some keys, by the map alone.
func (m entries) raw(w int, keys ...api.Key) []byte { return m.claim(w, keys).raw() }

// proofs tells the proofs for some keys, by the map alone.
func (m entries) proofs(w int, keys ...api.Key) (raws [][]byte) {
	for _, k := range keys {
		raws = append(raws, m.raw(w, k))
	}
	return raws
}

// someMap tells a map whose keys part high and low.
func someMap() entries {
	return entries{
		keyM: "m", flipped(keyM, 0): "a", flipped(keyM, 3): "", flipped(keyM, 40): text(1, 128),
		flipped(keyM, 254): "d", flipped(keyM, 255): "e", keyK: "k", keyB: "y", keyZ: "z",
	}
}

// keysAbout tells the keys of a map, and some beside them.
func (m entries) keysAbout() (keys []api.Key) {
	seen := map[api.Key]bool{}
	for _, k := range m.rising() {
		for _, x := range []api.Key{k, flipped(k, 255), flipped(k, 7), flipped(k, 130)} {
			if !seen[x] {
				keys = append(keys, x)
			}
			seen[x] = true
		}
	}
	return keys
}

// lists tells lists of keys, in several orders: of none, one, two and more, as they part high and low.
func (m entries) lists(rnd *rand.Rand) [][]api.Key {
	all := m.keysAbout()
	lists := [][]api.Key{nil, {}, all[:1], m.rising(), all[:min(len(all), 64)]}
	for _, n := range []int{1, 2, 2, 3, 5, 9, 20} {
		lists = append(lists, shuffled(rnd, all)[:min(n, len(all))])
	}
	return append(lists, shuffled(rnd, lists[4]))
}

// bitmap tells the 32 bytes in which the bits of these heights are set.
func bitmap(hs ...int) []byte {
	b := make([]byte, 32)
	for _, h := range hs {
		b[h/8] |= 1 << (h % 8)
	}
	return b
}

// found tells the bytes that say that a key is there.
func found(val string) []byte {
	return append(binary.LittleEndian.AppendUint16([]byte{1}, uint16(len(val))), val...)
}

var (
	missing = []byte{0}
	fork    = []byte{2}
)

func join(parts ...[]byte) []byte { return slices.Concat(parts...) }

// flat tells a digest as bytes.
func flat(d api.Digest) []byte { return d[:] }

// with tells the bytes with others from a place on.
func with(raw []byte, at int, b ...byte) []byte {
	raw = bytes.Clone(raw)
	copy(raw[at:], b)
	return raw
}

// batchOf tells a batch's bytes, by the document's words alone (P3.5).
func batchOf(cs ...api.Change) []byte {
	raw := binary.LittleEndian.AppendUint16(nil, uint16(len(cs)))
	for _, c := range cs {
		if c.Del {
			raw = append(append(raw, 2), c.Key[:]...)
			continue
		}
		raw = append(append(raw, 1), c.Key[:]...)
		raw = append(binary.LittleEndian.AppendUint16(raw, uint16(len(c.Val))), c.Val...)
	}
	return raw
}

// namedBy tells the keys of changes.
func namedBy(cs []api.Change) (keys []api.Key) {
	for _, c := range cs {
		keys = append(keys, c.Key)
	}
	return keys
}

// sameAnswer tells whether two answers are one; nil and empty values mean the same.
func sameAnswer(a, b api.Answer) bool { return a.Found == b.Found && bytes.Equal(a.Val, b.Val) }

// drawnMap tells a map of so many keys, some of which lie close to one another.
func drawnMap(rnd *rand.Rand, n int) entries {
	m := entries{}
	for len(m) < n {
		m[drawnKey(rnd)] = text(rnd.Intn(9), []int{0, 1, 2, 7, 128}[rnd.Intn(5)])
	}
	return m
}

// drawnKey tells a key of not too many, some of which lie close to one another.
func drawnKey(rnd *rand.Rand) api.Key {
	k := api.Key{byte(rnd.Intn(8) << 5), byte(rnd.Intn(4))}
	switch rnd.Intn(5) {
	case 0:
		return flipped(k, 255-rnd.Intn(3))
	case 1:
		return flipped(k, 16+rnd.Intn(240))
	}
	return k
}

// drawnKeys tells unlike keys.
func drawnKeys(rnd *rand.Rand, most int) (keys []api.Key) {
	for range rnd.Intn(most + 1) {
		if k := drawnKey(rnd); !slices.Contains(keys, k) {
			keys = append(keys, k)
		}
	}
	return keys
}

// drawnBatch tells changes of unlike keys.
func drawnBatch(rnd *rand.Rand, most int) []api.Change {
	return drawnChanges(rnd, drawnKeys(rnd, most))
}

// drawnChanges tells a change for each key.
func drawnChanges(rnd *rand.Rand, keys []api.Key) (cs []api.Change) {
	for _, k := range keys {
		if rnd.Intn(3) == 0 {
			cs = append(cs, del(k))
		} else {
			cs = append(cs, put(k, text(rnd.Intn(9), []int{0, 1, 7, 128}[rnd.Intn(4)])))
		}
	}
	return cs
}

// rig is a ledger over a disk.
type rig struct {
	*testing.T
	d *disk.Disk
	l *ledger.Ledger
}

// created makes an empty ledger.
func created(t *testing.T, pages, width, room int) *rig {
	t.Helper()
	d, e := disk.New(pages)
	if e != api.OK {
		t.Fatal(e)
	}
	l, err := ledger.Create(d, width, room)
	if err != nil {
		t.Fatal(err)
	}
	return &rig{t, d, l}
}

// commit makes a version.
func (r *rig) commit(cs ...api.Change) int {
	r.Helper()
	v, err := r.l.Commit(batchOf(cs...))
	if err != nil {
		r.Fatal(err)
	}
	return v
}

// root tells a version's root digest.
func (r *rig) root(version int) api.Digest {
	r.Helper()
	root, err := r.l.Root(version)
	if err != nil {
		r.Fatal(err)
	}
	return root
}

// proofs tells the ledger's own proofs.
func (r *rig) proofs(version int, keys ...api.Key) (raws [][]byte) {
	r.Helper()
	for _, k := range keys {
		raw, err := r.l.Prove(k[:], version)
		if err != nil {
			r.Fatal(err)
		}
		raws = append(raws, raw)
	}
	return raws
}
