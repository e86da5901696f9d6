package batch

import (
	"bytes"

	"ledger/api"
)

// The first byte of a change in its raw form.
const (
	rawPut    = 1
	rawDelete = 2
)

const (
	numberSize = 2                       // bytes of a count or a length
	headSize   = 1 + api.Height/byteBits // bytes of a change up to its key's end
	lengthEnd  = headSize + numberSize   // bytes of a put up to its length's end
)

// Build lays changes out as a batch's bytes.
func Build(cs ...api.Change) ([]byte, api.Errno) {
	if e := bounds(cs, api.MaxOps); e != api.OK {
		return nil, e
	}
	if repeated(cs) < len(cs) {
		return nil, api.ErrDup
	}
	raw := appendNumber(nil, len(cs))
	for _, c := range cs {
		raw = appendChange(raw, c)
	}
	return raw, api.OK
}

// Parse reads a batch's bytes; the number is that of the change at which it fails.
func Parse(raw []byte) ([]api.Change, int, api.Errno) {
	if len(raw) < numberSize {
		return nil, 0, api.ErrForm
	}
	n := number(raw)
	if n > api.MaxOps {
		return nil, 0, api.ErrMany
	}
	rest := raw[numberSize:]
	var cs []api.Change
	for i := range n {
		c, size, e := parseChange(rest)
		if e != api.OK {
			return nil, i, e
		}
		cs = append(cs, c)
		rest = rest[size:]
	}
	if len(rest) > 0 {
		return nil, n, api.ErrForm
	}
	if place := repeated(cs); place < n {
		return nil, place, api.ErrDup
	}
	return cs, 0, api.OK
}

// parseChange reads the change at the beginning of raw, and tells how many bytes it takes there.
func parseChange(raw []byte) (api.Change, int, api.Errno) {
	if len(raw) < headSize || raw[0] != rawPut && raw[0] != rawDelete {
		return api.Change{}, 0, api.ErrForm
	}
	key := api.Key(raw[1:headSize])
	if raw[0] == rawDelete {
		return api.Change{Key: key, Del: true}, headSize, api.OK
	}
	if len(raw) < lengthEnd {
		return api.Change{}, 0, api.ErrForm
	}
	length := number(raw[headSize:])
	if length > api.MaxVal {
		return api.Change{}, 0, api.ErrLong
	}
	end := lengthEnd + length
	if len(raw) < end {
		return api.Change{}, 0, api.ErrForm
	}
	return api.Change{Key: key, Val: bytes.Clone(raw[lengthEnd:end])}, end, api.OK
}

// appendChange lays one change behind raw.
func appendChange(raw []byte, c api.Change) []byte {
	if c.Del {
		return append(append(raw, rawDelete), c.Key[:]...)
	}
	raw = append(append(raw, rawPut), c.Key[:]...)
	return append(appendNumber(raw, len(c.Val)), c.Val...)
}

// appendNumber lays a count or a length behind raw, the lowest byte first.
func appendNumber(raw []byte, n int) []byte {
	return append(raw, byte(n), byte(n>>8))
}

// number reads the count or length at the beginning of raw.
func number(raw []byte) int {
	return int(raw[0]) | int(raw[1])<<8
}
