package ship

import (
	"ledger/api"
	"ledger/batch"
	"ledger/node"
)

// rooter works out the root digests of maps at one width. It has the digests of all empty subtrees at hand: each lone key climbs beside them, and to begin anew for each would hash many times as much.
type rooter struct {
	width int
	empty [api.Height + 1]api.Digest
}

func newRooter(width int) *rooter {
	r := &rooter{width: width}
	r.empty[0] = node.Empty(width, 0)
	for h := range api.Height {
		r.empty[h+1] = node.Branch(width, r.empty[h], r.empty[h])
	}
	return r
}

// root tells a map's root digest.
func (r *rooter) root(t *twig) api.Digest {
	if t == nil {
		return r.empty[api.Height]
	}
	return r.at(t, api.Height)
}

// at tells a twig's digest at a height that is not below its own. What was worked out for a lower height is climbed on from.
func (r *rooter) at(t *twig, height int) api.Digest {
	if !t.known || t.height > height {
		t.sum, t.height, t.known = r.own(t), api.Height-t.bit, true
	}
	for ; t.height < height; t.height++ {
		if batch.Bit(t.key, api.Height-1-t.height) == 0 {
			t.sum = node.Branch(r.width, t.sum, r.empty[t.height])
		} else {
			t.sum = node.Branch(r.width, r.empty[t.height], t.sum)
		}
	}
	return t.sum
}

// own tells a twig's digest where its keys part, of a leaf at its own place.
func (r *rooter) own(t *twig) api.Digest {
	if t.bit == api.Height {
		return node.Leaf(r.width, t.key, t.val)
	}
	beneath := api.Height - t.bit - 1
	return node.Branch(r.width, r.at(t.left, beneath), r.at(t.right, beneath))
}
