package walk

import (
	"bytes"

	"ledger/api"
	"ledger/batch"
	"ledger/store"
)

// side is what one of two trees has at a place that both are compared at.
type side struct {
	place
	node api.Node // the zero Node until the page has been looked at, and where there is none
}

// difference gathers the changes that lead from one tree to another, in rising order.
type difference struct {
	store   *store.Store
	changes []api.Change
}

// compare goes on with two sides of one place, and with all beneath it.
func (d *difference) compare(a, b side) api.Errno {
	if a.page == b.page {
		return api.OK
	}
	a, e := d.seen(a)
	if e != api.OK {
		return e
	}
	b, e = d.seen(b)
	if e != api.OK {
		return e
	}
	if a.node.Kind != api.KindBranch && b.node.Kind != api.KindBranch {
		d.turn(a.node, b.node)
		return api.OK
	}
	aLeft, aRight := a.parts()
	bLeft, bRight := b.parts()
	if e := d.compare(aLeft, bLeft); e != api.OK {
		return e
	}
	return d.compare(aRight, bRight)
}

// seen tells a side with its node: a leaf that came down from a place above is not loaded once more.
func (d *difference) seen(x side) (side, api.Errno) {
	if x.page == 0 || x.node.Kind == api.KindLeaf {
		return x, api.OK
	}
	n, e := look(d.store, x.place)
	x.node = n
	return x, e
}

// parts tells the sides of the two places beneath: a leaf stands in the one on its own path, and nothing beside it.
func (x side) parts() (left, right side) {
	switch x.node.Kind {
	case api.KindBranch:
		left.place, right.place = x.children(x.node)
	case api.KindLeaf:
		left.place, right.place = x.halves()
		on := &left
		if batch.Bit(x.node.Key, x.depth) == 1 {
			on = &right
		}
		on.page, on.node = x.page, x.node
	default:
		left.place, right.place = x.halves()
	}
	return left, right
}

// turn notes what leads from one leaf, or from none, to another one, or to none.
func (d *difference) turn(a, b api.Node) {
	one, other := a.Kind == api.KindLeaf, b.Kind == api.KindLeaf
	remove := api.Change{Key: a.Key, Del: true}
	put := api.Change{Key: b.Key, Val: b.Val}
	switch {
	case !other:
		d.changes = append(d.changes, remove)
	case !one:
		d.changes = append(d.changes, put)
	case a.Key == b.Key:
		if !bytes.Equal(a.Val, b.Val) {
			d.changes = append(d.changes, put)
		}
	case batch.Compare(a.Key, b.Key) < 0:
		d.changes = append(d.changes, remove, put)
	default:
		d.changes = append(d.changes, put, remove)
	}
}
