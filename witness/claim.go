package witness

import (
	"slices"

	"ledger/api"
	"ledger/batch"
	"ledger/digest"
	"ledger/node"
)

// terms is what all witnesses of one call have in common.
type terms struct {
	width int
	empty [api.Height]api.Digest // of the empty subtrees, by height: worked out once, as every place asks for them
}

// claim is what a witness says of the keys of a list.
type claim struct {
	*terms
	keys []api.Key // rising
	tree *place    // nil without keys
	says []saying  // by a key's number
}

// saying is what a witness says of one key. Of neighbours that several keys share, what stands with the lowest of these keys counts.
type saying struct {
	answer api.Answer
	beside [api.Height]api.Digest
}

// termsOf tells what a call stands on, if there is such a width.
func termsOf(width int) (*terms, api.Errno) {
	if width < 1 || width > api.MaxWidth {
		return nil, api.ErrArg
	}
	t := &terms{width: width}
	sum := node.Empty(width, 0)
	for h := range t.empty {
		t.empty[h] = sum
		sum = node.Branch(width, sum, sum)
	}
	return t, api.OK
}

// rising tells the keys of a list in their order, if it is one that may be.
func rising(keys []api.Key) ([]api.Key, api.Errno) {
	if len(keys) > api.MaxOps {
		return nil, api.ErrMany
	}
	sorted := slices.Clone(keys)
	slices.SortFunc(sorted, batch.Compare)
	for i := 1; i < len(sorted); i++ {
		if sorted[i-1] == sorted[i] {
			return nil, api.ErrDup
		}
	}
	return sorted, api.OK
}

// begun begins a claim for the keys of a list, if there are such a width and such a list.
func begun(width int, keys []api.Key) (*claim, api.Errno) {
	t, e := termsOf(width)
	if e != api.OK {
		return nil, e
	}
	return t.listed(keys)
}

// listed begins a claim for the keys of a list.
func (t *terms) listed(keys []api.Key) (*claim, api.Errno) {
	sorted, e := rising(keys)
	if e != api.OK {
		return nil, e
	}
	return t.about(sorted), api.OK
}

// about begins a claim for rising keys, which says that there is nothing.
func (t *terms) about(sorted []api.Key) *claim {
	c := &claim{terms: t, keys: sorted, says: make([]saying, len(sorted))}
	for i := range c.says {
		c.says[i].beside = t.empty
	}
	if len(sorted) > 0 {
		c.tree = grown(sorted, 0, len(sorted), api.Height)
	}
	return c
}

// held tells what a witness says that holds under a root, or why it does not.
func (t *terms) held(root api.Digest, keys []api.Key, raw []byte) (*claim, api.Errno) {
	c, e := t.listed(keys)
	if e != api.OK {
		return nil, e
	}
	if e := c.hold(root, raw); e != api.OK {
		return nil, e
	}
	return c, api.OK
}

// hold takes what a witness says, if it holds under a root.
func (c *claim) hold(root api.Digest, raw []byte) api.Errno {
	if e := c.read(raw); e != api.OK {
		return e
	}
	return c.leads(root)
}

// leads asks whether the claim's digests end at the root; without keys there is none that could end elsewhere.
func (c *claim) leads(root api.Digest) api.Errno {
	if c.tree != nil && c.sums().root() != root {
		return api.ErrRoot
	}
	return api.OK
}

// find tells a key's number, if it is one of the claim's.
func (c *claim) find(k api.Key) (int, bool) {
	return slices.BinarySearchFunc(c.keys, k, batch.Compare)
}

// fits tells whether a digest has nothing behind the width.
func (t *terms) fits(sum api.Digest) bool {
	return digest.Cut(sum, t.width) == sum
}
