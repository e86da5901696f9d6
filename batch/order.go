package batch

import (
	"bytes"
	"slices"

	"ledger/api"
)

// Normal sorts changes by their keys.
func Normal(cs []api.Change) ([]api.Change, api.Errno) {
	if e := bounds(cs, api.MaxList); e != api.OK {
		return nil, e
	}
	sorted := copies(cs)
	slices.SortFunc(sorted, func(a, b api.Change) int { return Compare(a.Key, b.Key) })
	if neighboursAlike(sorted) {
		return nil, api.ErrDup
	}
	return sorted, api.OK
}

// Fold tells the changes that do what the first ones and then the others do.
func Fold(first, then []api.Change) ([]api.Change, api.Errno) {
	early, e := Normal(first)
	if e != api.OK {
		return nil, e
	}
	late, e := Normal(then)
	if e != api.OK {
		return nil, e
	}
	folded := merge(early, late)
	if len(folded) > api.MaxOps {
		return nil, api.ErrMany
	}
	return folded, api.OK
}

// copies tells the same changes in memory of their own; what stands beside a delete is left out, as it says nothing.
func copies(cs []api.Change) []api.Change {
	own := make([]api.Change, len(cs))
	for i, c := range cs {
		own[i] = api.Change{Key: c.Key, Del: c.Del}
		if !c.Del {
			own[i].Val = bytes.Clone(c.Val)
		}
	}
	return own
}

// neighboursAlike tells whether a key stands twice in a sorted list: there its changes lie side by side, and a list of MaxList is too long to hold each against each.
func neighboursAlike(sorted []api.Change) bool {
	for i := 1; i < len(sorted); i++ {
		if sorted[i-1].Key == sorted[i].Key {
			return true
		}
	}
	return false
}

// merge lays two lists of rising keys into one; where both have a key, the late one's change counts.
func merge(early, late []api.Change) []api.Change {
	var merged []api.Change
	for len(early) > 0 && len(late) > 0 {
		order := Compare(early[0].Key, late[0].Key)
		if order < 0 {
			merged = append(merged, early[0])
		} else {
			merged = append(merged, late[0])
		}
		if order <= 0 {
			early = early[1:]
		}
		if order >= 0 {
			late = late[1:]
		}
	}
	return append(append(merged, early...), late...)
}
