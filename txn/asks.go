package txn

import (
	"bytes"
	"slices"

	"ledger/api"
	"ledger/ledger"
)

// ask tells what the transaction's version answers to a question; the transaction keeps both.
func (m *Manager) ask(t *transaction, q question) ([]api.Entry, api.Errno) {
	told, e := m.answer(q, t.version)
	if e != api.OK {
		return nil, e
	}
	t.keep(q, told)
	return told, api.OK
}

// confirm tells whether the newest version answers as the transaction's own did to all that it asked; the first that differs or is refused decides.
func (m *Manager) confirm(t *transaction, newest int) api.Errno {
	if newest == t.version {
		return api.OK
	}
	for _, a := range t.asked {
		told, e := m.answer(a.question, newest)
		if e != api.OK {
			return e
		}
		if !alike(told, a.told) {
			return api.ErrConflict
		}
	}
	return api.OK
}

// commit makes a version of the transaction's writes.
func (m *Manager) commit(t *transaction) (int, api.Errno) {
	raw, e := t.raw()
	if e != api.OK {
		return 0, e
	}
	version, err := m.Commit(raw)
	return version, ledger.Code(err)
}

// answer tells what a version answers to a question: of a key one entry, or none where it is not there.
func (m *Manager) answer(q question, version int) ([]api.Entry, api.Errno) {
	if q.span {
		return m.entries(q.low, q.high, version)
	}
	a, err := m.Get(q.low[:], version)
	if err != nil || !a.Found {
		return nil, ledger.Code(err)
	}
	return []api.Entry{{Key: q.low, Val: a.Val}}, api.OK
}

// entries tells all entries of a version from low to high, by as many Scans as it takes.
func (m *Manager) entries(low, high api.Key, version int) ([]api.Entry, api.Errno) {
	var all []api.Entry
	for {
		part, more, err := m.Scan(low[:], high[:], version, api.MaxScan)
		if err != nil {
			return nil, ledger.Code(err)
		}
		all = append(all, part...)
		if !more {
			return all, api.OK
		}
		low = following(part[len(part)-1].Key)
	}
}

// following tells the key next above one that is not the highest.
func following(k api.Key) api.Key {
	for i := len(k) - 1; i >= 0; i-- {
		k[i]++
		if k[i] != 0 {
			break
		}
	}
	return k
}

// alike tells whether two lists have the same entries.
func alike(a, b []api.Entry) bool {
	return slices.EqualFunc(a, b, func(x, y api.Entry) bool {
		return x.Key == y.Key && bytes.Equal(x.Val, y.Val)
	})
}
