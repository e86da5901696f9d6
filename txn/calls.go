package txn

import (
	"bytes"

	"ledger/api"
	"ledger/batch"
	"ledger/ledger"
)

// begin is Begin with its refusal as a number.
func (m *Manager) begin() (int, api.Errno) {
	if e := m.ready(); e != api.OK {
		return 0, e
	}
	if len(m.open) >= api.MaxOpen {
		return 0, api.ErrMany
	}
	info, err := m.Info()
	if err != nil {
		return 0, ledger.Code(err)
	}
	m.last++
	m.open[m.last] = begun(info.Last)
	return m.last, api.OK
}

// read is Read with its refusal as a number.
func (m *Manager) read(id int, key []byte) (api.Answer, api.Errno) {
	if e := m.ready(); e != api.OK {
		return api.Answer{}, e
	}
	k, e := keyOf(key)
	if e != api.OK {
		return api.Answer{}, e
	}
	t, e := m.find(id)
	if e != api.OK {
		return api.Answer{}, e
	}
	if c, written := t.writes[k]; written {
		return api.Answer{Found: !c.Del, Val: bytes.Clone(c.Val)}, api.OK
	}
	told, e := m.ask(t, question{low: k})
	if e != api.OK || len(told) == 0 {
		return api.Answer{}, e
	}
	return api.Answer{Found: true, Val: bytes.Clone(told[0].Val)}, api.OK
}

// between is Range with its refusal as a number.
func (m *Manager) between(id int, lo, hi []byte) ([]api.Entry, api.Errno) {
	if e := m.ready(); e != api.OK {
		return nil, e
	}
	low, high, e := ends(lo, hi)
	if e != api.OK {
		return nil, e
	}
	t, e := m.find(id)
	if e != api.OK {
		return nil, e
	}
	told, e := m.ask(t, question{span: true, low: low, high: high})
	if e != api.OK {
		return nil, e
	}
	return t.layOver(told, low, high), api.OK
}

// write is Write with its refusal as a number.
func (m *Manager) write(id int, c api.Change) api.Errno {
	if e := m.ready(); e != api.OK {
		return e
	}
	if !c.Del && len(c.Val) > api.MaxVal {
		return api.ErrLong
	}
	t, e := m.find(id)
	if e != api.OK {
		return e
	}
	return t.write(c)
}

// finish is Finish with its refusal as a number.
func (m *Manager) finish(id int) (int, api.Errno) {
	if e := m.ready(); e != api.OK {
		return 0, e
	}
	t, e := m.find(id)
	if e != api.OK {
		return 0, e
	}
	info, err := m.Info()
	if err != nil {
		return 0, ledger.Code(err)
	}
	if e := m.confirm(t, info.Last); e != api.OK {
		if e == api.ErrConflict {
			delete(m.open, id)
		}
		return 0, e
	}
	version := info.Last
	if len(t.writes) > 0 {
		if version, e = m.commit(t); e != api.OK {
			return 0, e
		}
	}
	delete(m.open, id)
	return version, api.OK
}

// abort is Abort with its refusal as a number.
func (m *Manager) abort(id int) api.Errno {
	if e := m.ready(); e != api.OK {
		return e
	}
	if _, e := m.find(id); e != api.OK {
		return e
	}
	delete(m.open, id)
	return api.OK
}

// ready tells whether there is a ledger, and whether it is live.
func (m *Manager) ready() api.Errno {
	if m.Ledger == nil {
		return api.ErrArg
	}
	return ledger.Code(m.Live())
}

// find tells the open transaction of a number.
func (m *Manager) find(id int) (*transaction, api.Errno) {
	t := m.open[id]
	if t == nil {
		return nil, api.ErrTxn
	}
	return t, api.OK
}

// ends tells the two ends of a span.
func ends(lo, hi []byte) (low, high api.Key, e api.Errno) {
	if low, e = keyOf(lo); e != api.OK {
		return low, high, e
	}
	if high, e = keyOf(hi); e != api.OK {
		return low, high, e
	}
	if batch.Compare(low, high) > 0 {
		return low, high, api.ErrRange
	}
	return low, high, api.OK
}

// keyOf tells the key whose bytes these are.
func keyOf(raw []byte) (api.Key, api.Errno) {
	if len(raw) != len(api.Key{}) {
		return api.Key{}, api.ErrKey
	}
	return api.Key(raw), api.OK
}
