package desk

import (
	"slices"

	"ledger/api"
)

// What stands ahead of a change.
const (
	markPut    = 1
	markDelete = 2
)

// replyFits tells whether those fields of a reply that are laid down can be.
func replyFits(op int, r api.Reply) bool {
	if r.Err != api.OK {
		return numberFits(int(r.Err), errSize)
	}
	switch op {
	case api.OpGet:
		return !r.Found || len(r.Val) <= api.MaxVal
	case api.OpScan:
		long := func(x api.Entry) bool { return len(x.Val) > api.MaxVal }
		return len(r.List) <= api.MaxList && !slices.ContainsFunc(r.List, long)
	case api.OpDiff:
		long := func(c api.Change) bool { return !c.Del && len(c.Val) > api.MaxVal }
		return len(r.Changes) <= api.MaxList && !slices.ContainsFunc(r.Changes, long)
	case api.OpInfo:
		i := r.Info
		return numberFits(i.Width, widthSize) && numberFits(i.Used, countSize) && numberFits(i.Pages, countSize) && numberFits(i.Keys, countSize)
	}
	return true
}

// layReply lays a reply out whose fields fit.
func layReply(op int, r api.Reply) []byte {
	raw := appendNumber(nil, int(r.Err), errSize)
	if r.Err != api.OK {
		return raw
	}
	switch op {
	case api.OpCommit:
		raw = appendNumber(raw, r.Version, versionSize)
	case api.OpGet:
		raw = appendFlag(raw, r.Found)
		if r.Found {
			raw = appendVal(raw, r.Val)
		}
	case api.OpRoot:
		raw = append(raw, r.Sum[:]...)
	case api.OpProve, api.OpSpan:
		raw = append(raw, r.Raw...)
	case api.OpScan:
		raw = appendFlag(raw, r.More)
		raw = appendList(raw, r.List)
	case api.OpDiff:
		raw = appendChanges(raw, r.Changes)
	case api.OpInfo:
		raw = appendInfo(raw, r.Info)
	}
	return raw
}

func appendFlag(raw []byte, set bool) []byte {
	if set {
		return append(raw, 1)
	}
	return append(raw, 0)
}

func appendVal(raw, val []byte) []byte {
	raw = appendNumber(raw, len(val), lengthSize)
	return append(raw, val...)
}

func appendList(raw []byte, list []api.Entry) []byte {
	raw = appendNumber(raw, len(list), countSize)
	for _, x := range list {
		raw = append(raw, x.Key[:]...)
		raw = appendVal(raw, x.Val)
	}
	return raw
}

func appendChanges(raw []byte, changes []api.Change) []byte {
	raw = appendNumber(raw, len(changes), countSize)
	for _, c := range changes {
		if c.Del {
			raw = append(raw, markDelete)
			raw = append(raw, c.Key[:]...)
			continue
		}
		raw = append(raw, markPut)
		raw = append(raw, c.Key[:]...)
		raw = appendVal(raw, c.Val)
	}
	return raw
}

func appendInfo(raw []byte, i api.Info) []byte {
	raw = appendNumber(raw, i.Width, widthSize)
	raw = appendNumber(raw, i.First, versionSize)
	raw = appendNumber(raw, i.Last, versionSize)
	raw = appendNumber(raw, i.Used, countSize)
	raw = appendNumber(raw, i.Pages, countSize)
	raw = appendNumber(raw, i.Keys, countSize)
	return append(raw, i.Sum[:]...)
}

// reply takes the reply to a request of a kind off.
func (p *reader) reply(op int) (r api.Reply) {
	r.Err = api.Errno(p.number(errSize))
	if r.Err != api.OK {
		return r
	}
	switch op {
	case api.OpCommit:
		r.Version = p.number(versionSize)
	case api.OpGet:
		r.Found = p.flag()
		if r.Found {
			r.Val = p.val()
		}
	case api.OpRoot:
		r.Sum = api.Digest(p.take(digestSize))
	case api.OpProve, api.OpSpan:
		r.Raw = p.copied(len(p.rest))
	case api.OpScan:
		r.More = p.flag()
		r.List = p.list()
	case api.OpDiff:
		r.Changes = p.changes()
	case api.OpInfo:
		r.Info = p.info()
	}
	return r
}

func (p *reader) flag() bool { return p.numberUpTo(1, flagSize) == 1 }

func (p *reader) val() []byte { return p.copied(p.numberUpTo(api.MaxVal, lengthSize)) }

func (p *reader) list() (list []api.Entry) {
	for range p.numberUpTo(api.MaxList, countSize) {
		x := api.Entry{Key: api.Key(p.take(keySize))}
		x.Val = p.val()
		if p.wrong {
			return nil
		}
		list = append(list, x)
	}
	return list
}

func (p *reader) changes() (changes []api.Change) {
	for range p.numberUpTo(api.MaxList, countSize) {
		c := p.change()
		if p.wrong {
			return nil
		}
		changes = append(changes, c)
	}
	return changes
}

func (p *reader) change() (c api.Change) {
	mark := p.number(markSize)
	c.Key = api.Key(p.take(keySize))
	switch mark {
	case markPut:
		c.Val = p.val()
	case markDelete:
		c.Del = true
	default:
		p.wrong = true
	}
	return c
}

func (p *reader) info() (i api.Info) {
	i.Width = p.number(widthSize)
	i.First = p.number(versionSize)
	i.Last = p.number(versionSize)
	i.Used = p.number(countSize)
	i.Pages = p.number(countSize)
	i.Keys = p.number(countSize)
	i.Sum = api.Digest(p.take(digestSize))
	return i
}
