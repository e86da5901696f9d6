package witness

import (
	"ledger/api"
	"ledger/batch"
	"ledger/node"
)

// ways are the digests of all places in which the keys of a claim lie, by the number of a place's lowest key and by the height.
type ways [][api.Height + 1]api.Digest

// root tells the digest of the root's place: the first key is its lowest.
func (w ways) root() api.Digest { return w[0][api.Height] }

// sums tells the digests of what the claim says.
func (c *claim) sums() ways {
	return c.sumsWith(func(p *place) api.Digest {
		return c.foot(c.keys[p.low], c.says[p.low].answer)
	})
}

// sumsBehind tells the digests of what the changes make of it; their keys are the claim's, rising.
func (c *claim) sumsBehind(cs []api.Change) ways {
	return c.sumsWith(func(p *place) api.Digest {
		return c.foot(c.keys[p.low], answerOf(cs[p.low]))
	})
}

// sumsWith tells the digests with the claim's neighbours and with what end makes where a path ends.
func (c *claim) sumsWith(end func(*place) api.Digest) ways {
	all := make(ways, len(c.keys))
	if c.tree == nil {
		return all
	}
	keep := func(p *place, height int, sum api.Digest) api.Digest {
		all[p.low][height] = sum
		return sum
	}
	foot := func(p *place) api.Digest { return keep(p, p.floor, end(p)) }
	climb := func(p *place, height int, below api.Digest) api.Digest {
		l, r := c.sides(p, height, below)
		return keep(p, height+1, node.Branch(c.width, l, r))
	}
	join := func(p *place, l, r api.Digest) api.Digest {
		return keep(p, p.floor, node.Branch(c.width, l, r))
	}
	fold(c.tree, foot, climb, join)
	return all
}

// sides tells a place's digest of a height and its neighbour as they lie beside one another.
func (c *claim) sides(p *place, height int, below api.Digest) (l, r api.Digest) {
	beside := c.says[p.low].beside[height]
	if batch.Bit(c.keys[p.low], api.Height-1-height) == 0 {
		return below, beside
	}
	return beside, below
}

// foot tells the digest of height 0 under a key of which this is said.
func (t *terms) foot(k api.Key, a api.Answer) api.Digest {
	if !a.Found {
		return t.empty[0]
	}
	return node.Leaf(t.width, k, a.Val)
}
