package client

import (
	"slices"

	"ledger/api"
	"ledger/node"
	"ledger/proof"
)

// byteBits is how many heights one byte of a proof's bits tells of.
const byteBits = 8

// terms is what all checks of one call have in common.
type terms struct {
	width int
	root  api.Digest
	empty []api.Digest // of the empty subtrees, by height: worked out once, as every proof asks for all of them
}

// check is one proof that is checked, and what the steps that it has passed have read out of it.
type check struct {
	terms
	key    api.Key
	raw    []byte
	said   api.Proof    // by form
	beside []api.Digest // by digests: the neighbours, by height
}

// termsOf tells what a call's checks stand on, if there is such a width.
func termsOf(width int, root api.Digest) (terms, api.Errno) {
	if width < 1 || width > api.MaxWidth {
		return terms{}, api.ErrArg
	}
	return terms{width: width, root: root, empty: empties(width)}, api.OK
}

// empties tells the digests of the empty subtrees that may be a path's neighbours.
func empties(width int) []api.Digest {
	sums := make([]api.Digest, api.Height)
	sum := node.Empty(width, 0)
	for h := range sums {
		sums[h] = sum
		sum = node.Branch(width, sum, sum)
	}
	return sums
}

// taken tells a proof of which nothing has been looked at yet.
func (t terms) taken(k api.Key, raw []byte) *check {
	return &check{terms: t, key: k, raw: raw}
}

// held tells a proof that has passed all steps, or what the first that refuses says.
func (t terms) held(k api.Key, raw []byte) (*check, api.Errno) {
	c := t.taken(k, raw)
	if e := through(c.form, c.digests, c.leads); e != api.OK {
		return nil, e
	}
	return c, api.OK
}

// changed tells the proof for the key of a change, if it holds and the change may be.
func (t terms) changed(raw []byte, c api.Change) (*check, api.Errno) {
	at, e := t.held(c.Key, raw)
	if e != api.OK {
		return nil, e
	}
	if !c.Del && len(c.Val) > api.MaxVal {
		return nil, api.ErrLong
	}
	return at, api.OK
}

// through goes through the steps of a check until one refuses.
func through(steps ...func() api.Errno) api.Errno {
	for _, step := range steps {
		if e := step(); e != api.OK {
			return e
		}
	}
	return api.OK
}

// form reads the bytes.
func (c *check) form() api.Errno {
	said, e := proof.Decode(c.raw)
	c.said = said
	return e
}

// digests looks at what the proof writes out, and puts it beside the path.
func (c *check) digests() api.Errno {
	c.beside = slices.Clone(c.empty)
	sums := c.said.Sums
	for h := range c.beside {
		if c.said.Bits[h/byteBits]>>(h%byteBits)&1 == 0 {
			continue
		}
		if !c.fits(sums[0]) {
			return api.ErrProof
		}
		// Each text that holds is to be the only one for what it says: what is left out need not be written.
		if sums[0] == c.empty[h] {
			return api.ErrDefault
		}
		c.beside[h] = sums[0]
		sums = sums[1:]
	}
	return api.OK
}

// leads asks whether the path ends at the root.
func (c *check) leads() api.Errno {
	if c.sumAt(c.foot(), api.Height) != c.root {
		return api.ErrRoot
	}
	return api.OK
}

// fits tells whether a digest has nothing behind the width.
func (t terms) fits(sum api.Digest) bool {
	for _, b := range sum[t.width:] {
		if b != 0 {
			return false
		}
	}
	return true
}
