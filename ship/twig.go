package ship

import (
	"bytes"

	"ledger/api"
	"ledger/batch"
)

// twig is a map with one key at least, or a part of one: a leaf, or a fork at the first bit in which its keys differ. The empty map is nil.
// A twig stays as it was made: the map of a version shares with the one ahead of it all that both have, and what was worked out for it.
type twig struct {
	bit         int     // of a leaf Height: no bit is left
	key         api.Key // of a fork one of those beneath it
	val         []byte
	left, right *twig

	// What was worked out last of its digest: at which height, and that it was.
	sum    api.Digest
	height int
	known  bool
}

func leaf(k api.Key, val []byte) *twig {
	return &twig{bit: api.Height, key: k, val: val}
}

func fork(bit int, left, right *twig) *twig {
	return &twig{bit: bit, key: left.key, left: left, right: right}
}

// side tells on which side of a fork a key lies.
func (t *twig) side(k api.Key) *twig {
	if batch.Bit(k, t.bit) == 0 {
		return t.left
	}
	return t.right
}

// changed tells the map behind some changes.
func (t *twig) changed(cs []api.Change) *twig {
	for _, c := range cs {
		if c.Del {
			t = t.without(c.Key)
		} else {
			t = t.with(c.Key, c.Val)
		}
	}
	return t
}

// with tells the map with a value under a key: the same one, if it is there already.
func (t *twig) with(k api.Key, val []byte) *twig {
	if t == nil {
		return leaf(k, val)
	}
	common := batch.Common(k, t.key)
	switch {
	case common < t.bit:
		return beside(common, leaf(k, val), t)
	case t.bit < api.Height:
		return t.over(k, t.side(k).with(k, val))
	case bytes.Equal(t.val, val):
		return t
	}
	return leaf(k, val)
}

// without tells the map without a key: the same one, if the key is not there.
func (t *twig) without(k api.Key) *twig {
	switch {
	case t == nil || batch.Common(k, t.key) < t.bit:
		return t
	case t.bit == api.Height:
		return nil
	}
	return t.over(k, t.side(k).without(k))
}

// beside forks a new key off at the bit where it parts from the others.
func beside(bit int, added, others *twig) *twig {
	if batch.Bit(added.key, bit) == 0 {
		return fork(bit, added, others)
	}
	return fork(bit, others, added)
}

// over tells a fork with another twig, or none, on a key's side.
func (t *twig) over(k api.Key, next *twig) *twig {
	left, right := t.left, t.right
	if batch.Bit(k, t.bit) == 0 {
		left = next
	} else {
		right = next
	}
	switch {
	case next == t.side(k):
		return t
	case left == nil:
		return right
	case right == nil:
		return left
	}
	return fork(t.bit, left, right)
}

// find tells a key's leaf, nil if the key is not there.
func (t *twig) find(k api.Key) *twig {
	for t != nil && t.bit < api.Height {
		t = t.side(k)
	}
	if t == nil || t.key != k {
		return nil
	}
	return t
}

// shared tells how many of a key's first bits two keys of the map or more begin with: -1, if there are no two.
func (t *twig) shared(k api.Key) int {
	bits := -1
	for t != nil && t.bit < api.Height {
		bits = min(t.bit, batch.Common(k, t.key))
		if bits < t.bit {
			break
		}
		t = t.side(k)
	}
	return bits
}

// entries lays the map's entries behind a list, keys rising.
func (t *twig) entries(list []api.Entry) []api.Entry {
	switch {
	case t == nil:
		return list
	case t.bit == api.Height:
		return append(list, api.Entry{Key: t.key, Val: t.val})
	}
	return t.right.entries(t.left.entries(list))
}

// cost tells how many pages of nodes a commit uses that leads by these changes, keys rising, from one map to another.
func cost(old, held *twig, cs []api.Change) int {
	pages := 0
	keys := moved(old, held, cs)
	for i, k := range keys {
		if held.find(k) != nil {
			pages++
		}
		branches := held.shared(k) + 1
		if i > 0 {
			// The branches above both keys are counted with the first.
			branches -= min(branches, batch.Common(keys[i-1], k)+1)
		}
		pages += branches
	}
	return pages
}

// moved tells the keys of the changes that take effect. A leaf that is as it was is the same in both maps.
func moved(old, held *twig, cs []api.Change) []api.Key {
	var keys []api.Key
	for _, c := range cs {
		if old.find(c.Key) != held.find(c.Key) {
			keys = append(keys, c.Key)
		}
	}
	return keys
}
