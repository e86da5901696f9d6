package ship

import (
	"iter"

	"ledger/api"
	"ledger/batch"
	"ledger/crc"
)

// letters begin every stream.
const letters = "LDGS"

// How many bytes the parts of a stream take.
const (
	widthLength   = 1
	versionLength = 4
	countLength   = 2
	keyLength     = len(api.Key{})
	digestLength  = len(api.Digest{})
	sealLength    = 4
)

// cargo is what a stream carries: its front, and a step for each of its versions.
type cargo struct {
	Head
	steps []step
}

// step leads to a version from the one ahead of it; the first one leads from the empty map to that of From, and has no raw bytes.
type step struct {
	changes []api.Change // keys rising
	raw     []byte
	sum     api.Digest
}

// version is what a stream says of one version: its number, its map and its root digest, with the step that leads to it and the map from which that leads.
type version struct {
	number    int
	old, held *twig
	step
}

// versions goes over what a stream says of its versions, from the first on.
func (c cargo) versions() iter.Seq[version] {
	return func(yield func(version) bool) {
		var held *twig
		for i, s := range c.steps {
			old := held
			held = held.changed(s.changes)
			if !yield(version{c.From + i, old, held, s}) {
				return
			}
		}
	}
}

// unload takes a stream apart that is right by its form.
func unload(stream []byte) (cargo, api.Errno) {
	if !crc.Whole(stream) {
		return cargo{}, api.ErrStream
	}
	r := &reader{rest: stream[:len(stream)-sealLength]}
	var c cargo
	if !r.head(&c) || !r.base(&c) || !r.later(&c) || len(r.rest) > 0 {
		return cargo{}, api.ErrStream
	}
	return c, api.OK
}

// reader takes a stream's bytes from the front on. Once they do not suffice it is short for good, and tells zeros.
type reader struct {
	rest  []byte
	short bool
}

func (r *reader) take(n int) []byte {
	if r.short || n > len(r.rest) {
		r.short = true
		return make([]byte, n)
	}
	part := r.rest[:n:n]
	r.rest = r.rest[n:]
	return part
}

func (r *reader) number(length int) int {
	n := 0
	for i, b := range r.take(length) {
		n |= int(b) << (8 * i)
	}
	return n
}

// digest takes a digest, and tells whether its bytes beyond the width are zero.
func (r *reader) digest(width int) (api.Digest, bool) {
	d := api.Digest(r.take(digestLength))
	cut := d
	clear(cut[width:])
	return d, cut == d && !r.short
}

// head takes what stands at the front, and tells whether it is right.
func (r *reader) head(c *cargo) bool {
	named := string(r.take(len(letters))) == letters
	c.Width, c.From, c.To = r.number(widthLength), r.number(versionLength), r.number(versionLength)
	if !named || c.Width < 1 || c.Width > api.MaxWidth || c.From > c.To || c.To > api.MaxVersion {
		return false
	}
	sum, right := r.digest(c.Width)
	c.Sum = sum
	return right
}

// base takes the map of the first version, and tells whether it is right.
func (r *reader) base(c *cargo) bool {
	keys := r.number(countLength)
	if keys > api.MaxList || c.From == 0 && keys > 0 {
		return false
	}
	puts := make([]api.Change, keys)
	for i := range puts {
		k := api.Key(r.take(keyLength))
		if i > 0 && batch.Compare(puts[i-1].Key, k) >= 0 {
			return false
		}
		length := r.number(countLength)
		if length > api.MaxVal {
			return false
		}
		puts[i] = api.Change{Key: k, Val: r.take(length)}
	}
	c.steps = append(c.steps, step{changes: puts, sum: c.Sum})
	return !r.short
}

// later takes the batches and digests of the versions behind the first one, and tells whether they are right.
func (r *reader) later(c *cargo) bool {
	for range c.To - c.From {
		raw := r.take(r.number(countLength))
		changes, _, e := batch.Parse(raw)
		if e != api.OK {
			return false
		}
		sum, right := r.digest(c.Width)
		if !right {
			return false
		}
		rising, e := batch.Normal(changes)
		if e != api.OK {
			return false
		}
		c.steps = append(c.steps, step{rising, raw, sum})
	}
	return true
}
