package remote_test

import (
	"bytes"
	"crypto/sha256"
	"encoding/binary"
	"maps"
	"slices"

	"ledger/api"
)

// What a map's root and proofs are, by the document's words over the library's own SHA-256.

func cutSum(w int, parts ...[]byte) api.Digest {
	sum := api.Digest(sha256.Sum256(slices.Concat(parts...)))
	clear(sum[w:])
	return sum
}

func leafSum(w int, k api.Key, val []byte) api.Digest { return cutSum(w, []byte{0}, k[:], val) }

func pairSum(w int, l, r api.Digest) api.Digest { return cutSum(w, []byte{1}, l[:w], r[:w]) }

// sideSum tells the digest of a subtree of height h + 1 out of the one on a key's way and its neighbour.
func sideSum(w, h int, k api.Key, own, beside api.Digest) api.Digest {
	if bit(k, 255-h) == 0 {
		return pairSum(w, own, beside)
	}
	return pairSum(w, beside, own)
}

var empties = everyEmpty()

// everyEmpty tells the digests of the empty subtrees, a row a width.
func everyEmpty() (all [33][257]api.Digest) {
	for w := 1; w <= 32; w++ {
		all[w][0] = cutSum(w, []byte{2})
		for h := range 256 {
			all[w][h+1] = pairSum(w, all[w][h], all[w][h])
		}
	}
	return all
}

func bit(k api.Key, i int) int { return int(k[i/8]>>(7-i%8)) & 1 }

// entries is a map as the document means it.
type entries map[api.Key]string

// behind tells the map that a list of changes leaves.
func (m entries) behind(cs ...api.Change) entries {
	behind := maps.Clone(m)
	for _, c := range cs {
		if c.Del {
			delete(behind, c.Key)
		} else {
			behind[c.Key] = string(c.Val)
		}
	}
	return behind
}

// to tells the changes that lead to another map, their keys rising.
func (m entries) to(n entries) (cs []api.Change) {
	for _, k := range m.behind(n.puts()...).rising() {
		val, has := n[k]
		if !has {
			cs = append(cs, del(k))
		} else if old, had := m[k]; !had || old != val {
			cs = append(cs, put(k, val))
		}
	}
	return cs
}

// rising tells the keys in their order.
func (m entries) rising() []api.Key {
	return slices.SortedFunc(maps.Keys(m), func(a, b api.Key) int { return bytes.Compare(a[:], b[:]) })
}

// puts tells the list that makes the map out of nothing, in the keys' order.
func (m entries) puts() (cs []api.Change) {
	for _, k := range m.rising() {
		cs = append(cs, put(k, m[k]))
	}
	return cs
}

// between tells the map's entries from lo to hi, keys rising.
func (m entries) between(lo, hi api.Key) (list []api.Entry) {
	for _, k := range m.rising() {
		if bytes.Compare(lo[:], k[:]) <= 0 && bytes.Compare(k[:], hi[:]) <= 0 {
			list = append(list, api.Entry{Key: k, Val: []byte(m[k])})
		}
	}
	return list
}

// answer tells what the map holds under a key.
func (m entries) answer(k api.Key) api.Answer {
	val, has := m[k]
	if !has {
		return api.Answer{}
	}
	return api.Answer{Found: true, Val: []byte(val)}
}

// parted tells which of some keys have 0 at a bit, and which 1.
func parted(keys []api.Key, at int) (l, r []api.Key) {
	for _, k := range keys {
		if bit(k, at) == 0 {
			l = append(l, k)
		} else {
			r = append(r, k)
		}
	}
	return l, r
}

// sum tells the digest of the subtree of a height that holds these keys.
func (m entries) sum(w, h int, keys []api.Key) api.Digest {
	switch {
	case len(keys) == 0:
		return empties[w][h]
	case len(keys) == 1:
		sum := leafSum(w, keys[0], []byte(m[keys[0]]))
		for at := range h {
			sum = sideSum(w, at, keys[0], sum, empties[w][at])
		}
		return sum
	}
	l, r := parted(keys, 256-h)
	return pairSum(w, m.sum(w, h-1, l), m.sum(w, h-1, r))
}

// root tells the map's root.
func (m entries) root(w int) api.Digest { return m.sum(w, 256, m.rising()) }

// proof tells the bytes of the map's proof for a key (P12.2, P12.8).
func (m entries) proof(w int, k api.Key) []byte {
	x := saying{w: w, key: k, answer: m.answer(k)}
	keys := m.rising()
	for h := 255; h >= 0; h-- {
		own, beside := parted(keys, 255-h)
		if bit(k, 255-h) == 1 {
			own, beside = beside, own
		}
		x.beside[h] = m.sum(w, h, beside)
		keys = own
	}
	return x.raw()
}

// proofs tells those of the changes' keys.
func (m entries) proofs(w int, cs ...api.Change) (raws [][]byte) {
	for _, c := range cs {
		raws = append(raws, m.proof(w, c.Key))
	}
	return raws
}

// span tells the bytes of the map's proof for a span (P14.1).
func (m entries) span(w int, lo, hi api.Key) []byte {
	return m.spanText(w, 256, api.Key{}, m.rising(), lo, hi)
}

// spanText tells the text of the place of height h that begins at a key and holds these keys.
func (m entries) spanText(w, h int, from api.Key, keys []api.Key, lo, hi api.Key) []byte {
	last := from
	for i := 256 - h; i < 256; i++ {
		last[i/8] |= 128 >> (i % 8)
	}
	if bytes.Compare(last[:], lo[:]) < 0 || bytes.Compare(from[:], hi[:]) > 0 {
		if d := m.sum(w, h, keys); d != empties[w][h] {
			return append([]byte{1}, d[:]...)
		}
		return []byte{0}
	}
	if len(keys) == 0 {
		return []byte{0}
	}
	if len(keys) == 1 {
		return loneText(keys[0], m[keys[0]])
	}
	lefts, rights := parted(keys, 256-h)
	l := m.spanText(w, h-1, from, lefts, lo, hi)
	r := m.spanText(w, h-1, flipped(from, 256-h), rights, lo, hi)
	switch {
	case l[0] == 0 && r[0] == 0:
		return []byte{0}
	case l[0] == 0 && r[0] == 2:
		return r
	case l[0] == 2 && r[0] == 0:
		return l
	}
	return slices.Concat([]byte{3}, l, r)
}

func loneText(k api.Key, val string) []byte {
	return slices.Concat([]byte{2}, k[:], binary.LittleEndian.AppendUint16(nil, uint16(len(val))), []byte(val))
}
