package txn

import (
	"bytes"
	"slices"

	"ledger/api"
	"ledger/batch"
)

// question is what a version is asked: for one key (low alone), or for a span.
type question struct {
	span      bool
	low, high api.Key
}

// asking is a question with what was told.
type asking struct {
	question
	told []api.Entry
}

// transaction is an open one.
type transaction struct {
	version int
	writes  map[api.Key]api.Change
	asked   []asking
	places  map[question]int // where in asked a question stands, the last time
}

// begun tells a transaction that has done nothing yet.
func begun(version int) *transaction {
	return &transaction{version: version, writes: map[api.Key]api.Change{}, places: map[question]int{}}
}

// keep lays a question behind what was asked. One that was told the same already decides nothing more: so reads of one key again and again take no room.
func (t *transaction) keep(q question, told []api.Entry) {
	if place, has := t.places[q]; has && alike(t.asked[place].told, told) {
		return
	}
	t.places[q] = len(t.asked)
	t.asked = append(t.asked, asking{q, told})
}

// write lays a change into the place of an earlier one of its key.
func (t *transaction) write(c api.Change) api.Errno {
	if _, written := t.writes[c.Key]; !written && len(t.writes) >= api.MaxOps {
		return api.ErrMany
	}
	own := api.Change{Key: c.Key, Del: c.Del}
	if !c.Del {
		own.Val = bytes.Clone(c.Val)
	}
	t.writes[c.Key] = own
	return api.OK
}

// layOver tells the entries from low to high that the version told, with the transaction's writes in their places, in memory of its own.
func (t *transaction) layOver(told []api.Entry, low, high api.Key) []api.Entry {
	var list []api.Entry
	for _, x := range told {
		if _, written := t.writes[x.Key]; !written {
			list = append(list, api.Entry{Key: x.Key, Val: bytes.Clone(x.Val)})
		}
	}
	for k, c := range t.writes {
		if !c.Del && batch.Compare(low, k) <= 0 && batch.Compare(k, high) <= 0 {
			list = append(list, api.Entry{Key: k, Val: bytes.Clone(c.Val)})
		}
	}
	slices.SortFunc(list, func(a, b api.Entry) int { return batch.Compare(a.Key, b.Key) })
	return list
}

// raw tells the bytes of the batch that the writes are, their keys rising.
func (t *transaction) raw() ([]byte, api.Errno) {
	var changes []api.Change
	for _, c := range t.writes {
		changes = append(changes, c)
	}
	rising, e := batch.Normal(changes)
	if e != api.OK {
		return nil, e
	}
	return batch.Build(rising...)
}
