package witness

import (
	"ledger/api"
	"ledger/batch"
)

// place is one of the places in which the keys of a list lie: where the paths of some of them, which have come down as one, part, or where the path of a single one ends.
type place struct {
	low         int    // the number of its lowest key in the rising list
	floor, top  int    // its keys have their neighbours in common from the height floor up to the one below top
	left, right *place // both nil where a path ends
}

// grown joins the paths of the keys numbered from low up to the one before high, two of which are never the same, beneath the height top.
func grown(keys []api.Key, low, high, top int) *place {
	if high-low == 1 {
		return &place{low: low, top: top}
	}
	// The keys rise: what the first and the last share, all do.
	common := batch.Common(keys[low], keys[high-1])
	fork := api.Height - 1 - common
	middle := low
	for batch.Bit(keys[middle], common) == 0 {
		middle++
	}
	return &place{
		low:   low,
		floor: fork + 1,
		top:   top,
		left:  grown(keys, low, middle, fork),
		right: grown(keys, middle, high, fork),
	}
}

// fold goes over the joined paths from their ends up: it is handed what to make at an end, what of that at each neighbour further up, and what of both sides at a fork.
func fold[T any](p *place, end func(*place) T, neighbour func(p *place, height int, below T) T, fork func(p *place, left, right T) T) T {
	var made T
	if p.left == nil {
		made = end(p)
	} else {
		made = fork(p, fold(p.left, end, neighbour, fork), fold(p.right, end, neighbour, fork))
	}
	for h := p.floor; h < p.top; h++ {
		made = neighbour(p, h, made)
	}
	return made
}
