package ship

import (
	"bytes"
	"slices"

	"ledger/api"
	"ledger/batch"
	"ledger/crc"
	"ledger/ledger"
)

// export is Export with its refusal as a number, and the version at which it is told.
func export(l *ledger.Ledger, from, to int) ([]byte, int, api.Errno) {
	if l == nil {
		return nil, from, api.ErrArg
	}
	info, err := l.Info()
	if err != nil {
		return nil, from, ledger.Code(err)
	}
	first, e := kept(info, from)
	if e != api.OK {
		return nil, from, e
	}
	last, e := kept(info, to)
	if e != api.OK {
		return nil, to, e
	}
	if first > last {
		return nil, from, api.ErrRange
	}
	stream, e := pack(l, Head{Width: info.Width, From: first, To: last})
	return stream, from, e
}

// kept tells which version is meant, if it is one that can be read.
func kept(info api.Info, version int) (int, api.Errno) {
	switch {
	case version == api.Newest:
		return info.Last, api.OK
	case version < 0 || version > info.Last:
		return 0, api.ErrVersion
	case version < info.First:
		return 0, api.ErrGone
	}
	return version, api.OK
}

// pack lays the versions of a stream out, and seals them.
func pack(l *ledger.Ledger, h Head) ([]byte, api.Errno) {
	stream, e := packBase(l, h)
	if e != api.OK {
		return nil, e
	}
	for v := h.From + 1; v <= h.To; v++ {
		step, e := packStep(l, v)
		if e != api.OK {
			return nil, e
		}
		stream = append(stream, step...)
	}
	return crc.Seal(stream), api.OK
}

// packBase lays the front of a stream out, and the map of its first version.
func packBase(l *ledger.Ledger, h Head) ([]byte, api.Errno) {
	sum, err := l.Root(h.From)
	if err != nil {
		return nil, ledger.Code(err)
	}
	list, e := entriesOf(l, h.From)
	if e != api.OK {
		return nil, e
	}
	if len(list) > api.MaxList {
		return nil, api.ErrCorrupt
	}
	b := []byte(letters)
	b = number(b, h.Width, widthLength)
	b = number(b, h.From, versionLength)
	b = number(b, h.To, versionLength)
	b = append(b, sum[:]...)
	b = number(b, len(list), countLength)
	for _, x := range list {
		b = append(b, x.Key[:]...)
		b = number(b, len(x.Val), countLength)
		b = append(b, x.Val...)
	}
	return b, api.OK
}

// packStep lays the batch that leads to a version out, and the version's root digest.
func packStep(l *ledger.Ledger, version int) ([]byte, api.Errno) {
	sum, err := l.Root(version)
	if err != nil {
		return nil, ledger.Code(err)
	}
	changes, err := l.Diff(version-1, version)
	if err != nil {
		return nil, ledger.Code(err)
	}
	raw, e := batch.Build(changes...)
	if e != api.OK {
		// No Commit makes so many changes.
		return nil, api.ErrCorrupt
	}
	return slices.Concat(number(nil, len(raw), countLength), raw, sum[:]), api.OK
}

// number lays a number of so many bytes behind others, its lowest byte first.
func number(b []byte, n, length int) []byte {
	for i := range length {
		b = append(b, byte(n>>(8*i)))
	}
	return b
}

// entriesOf tells all entries of a version, by as many Scans as it takes.
func entriesOf(l *ledger.Ledger, version int) ([]api.Entry, api.Errno) {
	var all []api.Entry
	low, high := api.Key{}, api.Key(bytes.Repeat([]byte{255}, keyLength))
	for {
		part, more, err := l.Scan(low[:], high[:], version, api.MaxScan)
		if err != nil {
			return nil, ledger.Code(err)
		}
		all = append(all, part...)
		if !more {
			return all, api.OK
		}
		low = following(part[len(part)-1].Key)
	}
}

// following tells the key next above one that is not the highest.
func following(k api.Key) api.Key {
	for i := len(k) - 1; i >= 0; i-- {
		k[i]++
		if k[i] != 0 {
			break
		}
	}
	return k
}
