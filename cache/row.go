package cache

// entry is a key with its value, linked to its neighbours in the row in which it stands.
type entry[K comparable, V any] struct {
	key           K
	value         V
	held          bool
	before, after *entry[K, V]
}

// row is a row of linked entries: what stands anywhere in it is taken out without a search.
type row[K comparable, V any] struct {
	first, last *entry[K, V]
	count       int
}

// pushFirst puts an entry that stands in no row ahead of all others.
func (r *row[K, V]) pushFirst(e *entry[K, V]) { r.link(nil, e, r.first) }

// pushLast puts an entry that stands in no row behind all others.
func (r *row[K, V]) pushLast(e *entry[K, V]) { r.link(r.last, e, nil) }

// link sets an entry between two that are neighbours, nil standing for an end of the row.
func (r *row[K, V]) link(before, e, after *entry[K, V]) {
	r.join(before, e)
	r.join(e, after)
	r.count++
}

// takeOut takes an entry out of the row in which it stands. Its own links go on pointing there until it is put into a row anew.
func (r *row[K, V]) takeOut(e *entry[K, V]) {
	r.join(e.before, e.after)
	r.count--
}

// join makes two entries neighbours, nil standing for an end of the row.
func (r *row[K, V]) join(before, after *entry[K, V]) {
	if before == nil {
		r.first = after
	} else {
		before.after = after
	}
	if after == nil {
		r.last = before
	} else {
		after.before = before
	}
}

// keys lists the row's keys, from the first to the last, in memory of their own.
func (r *row[K, V]) keys() []K {
	list := make([]K, 0, r.count)
	for e := r.first; e != nil; e = e.after {
		list = append(list, e.key)
	}
	return list
}
