package desk_test

import (
	"bytes"
	"encoding/binary"
	"io"

	"ledger/api"
)

// A plain reading of the chapter's two tables, over the library's own numbers.

// layouts tells the fields of each kind's frames: K Key, H High, V Version, O Other, L Limit, B the batch.
var layouts = map[int]string{1: "B", 2: "KV", 3: "V", 4: "KV", 5: "KHV", 6: "KHVL", 7: "VO", 8: "", 9: ""}

// plainFrame tells a request's frame, and whether there is one (P20.1).
func plainFrame(r api.Request) ([]byte, bool) {
	layout, known := layouts[r.Op]
	right := known
	b := []byte{byte(r.Op)}
	for _, field := range layout {
		switch field {
		case 'K':
			right = right && len(r.Key) == 32
			b = append(b, r.Key...)
		case 'H':
			right = right && len(r.High) == 32
			b = append(b, r.High...)
		case 'V':
			b = binary.LittleEndian.AppendUint64(b, uint64(r.Version))
		case 'O':
			b = binary.LittleEndian.AppendUint64(b, uint64(r.Other))
		case 'L':
			right = right && r.Limit >= 0 && r.Limit <= 4294967295
			b = binary.LittleEndian.AppendUint32(b, uint32(r.Limit))
		case 'B':
			right = right && len(r.Batch) <= 11999
			b = append(b, r.Batch...)
		}
	}
	if !right {
		return nil, false
	}
	return b, true
}

// plainRequest tells the request that a frame is, and whether it is one (P20.2).
func plainRequest(b []byte) (api.Request, bool) {
	if len(b) == 0 || len(b) > 12000 {
		return api.Request{}, false
	}
	version := func(at int) int { return int(int64(binary.LittleEndian.Uint64(b[at:]))) }
	switch op := int(b[0]); {
	case op == 1:
		return api.Request{Op: 1, Batch: b[1:]}, true
	case (op == 2 || op == 4) && len(b) == 1+32+8:
		return api.Request{Op: op, Key: b[1:33], Version: version(33)}, true
	case op == 3 && len(b) == 1+8:
		return api.Request{Op: 3, Version: version(1)}, true
	case op == 5 && len(b) == 1+32+32+8:
		return api.Request{Op: 5, Key: b[1:33], High: b[33:65], Version: version(65)}, true
	case op == 6 && len(b) == 1+32+32+8+4:
		return api.Request{Op: 6, Key: b[1:33], High: b[33:65], Version: version(65), Limit: int(binary.LittleEndian.Uint32(b[73:]))}, true
	case op == 7 && len(b) == 1+8+8:
		return api.Request{Op: 7, Version: version(1), Other: version(9)}, true
	case (op == 8 || op == 9) && len(b) == 1:
		return api.Request{Op: op}, true
	}
	return api.Request{}, false
}

// had tells a request with those fields alone that its kind has.
func had(r api.Request) api.Request {
	other := api.Request{Op: r.Op}
	for _, field := range layouts[r.Op] {
		switch field {
		case 'K':
			other.Key = r.Key
		case 'H':
			other.High = r.High
		case 'V':
			other.Version = r.Version
		case 'O':
			other.Other = r.Other
		case 'L':
			other.Limit = r.Limit
		case 'B':
			other.Batch = r.Batch
		}
	}
	return other
}

// plainBytes tells the bytes of a reply to a kind of request, and whether there are such (P20.4).
func plainBytes(op int, r api.Reply) ([]byte, bool) {
	if op < 1 || op > 9 || r.Err < 0 || r.Err > 65535 {
		return nil, false
	}
	b, right := binary.LittleEndian.AppendUint16(nil, uint16(r.Err)), true
	if r.Err != 0 {
		return b, true
	}
	number := func(n, size int) {
		whole := binary.LittleEndian.AppendUint64(nil, uint64(n))
		for _, beyond := range whole[size:] {
			right = right && beyond == 0
		}
		b = append(b, whole[:size]...)
	}
	flag := func(f bool) {
		b = append(b, map[bool]byte{false: 0, true: 1}[f])
	}
	value := func(v []byte) {
		right = right && len(v) <= 128
		number(min(len(v), 129), 2)
		b = append(b, v...)
	}
	switch op {
	case 1:
		number(r.Version, 8)
	case 2:
		if flag(r.Found); r.Found {
			value(r.Val)
		}
	case 3:
		b = append(b, r.Sum[:]...)
	case 4, 5:
		b = append(b, r.Raw...)
	case 6:
		flag(r.More)
		number(len(r.List), 4)
		right = right && len(r.List) <= 4096
		for _, x := range r.List {
			b = append(b, x.Key[:]...)
			value(x.Val)
		}
	case 7:
		number(len(r.Changes), 4)
		right = right && len(r.Changes) <= 4096
		for _, c := range r.Changes {
			b = append(append(b, map[bool]byte{false: 1, true: 2}[c.Del]), c.Key[:]...)
			if !c.Del {
				value(c.Val)
			}
		}
	case 8:
		number(r.Info.Width, 1)
		number(r.Info.First, 8)
		number(r.Info.Last, 8)
		number(r.Info.Used, 4)
		number(r.Info.Pages, 4)
		number(r.Info.Keys, 4)
		b = append(b, r.Info.Sum[:]...)
	}
	if !right {
		return nil, false
	}
	return b, true
}

// plainReply tells the reply to a kind of request that bytes are, and whether they are one (P20.5).
func plainReply(op int, b []byte) (r api.Reply, right bool) {
	in := bytes.NewReader(b)
	right = op >= 1 && op <= 9
	part := func(n int) []byte {
		p := make([]byte, n)
		_, wrong := io.ReadFull(in, p)
		right = right && (n == 0 || wrong == nil)
		return p
	}
	number := func(size, most int) int {
		n := int(int64(binary.LittleEndian.Uint64(append(part(size), make([]byte, 8-size)...))))
		if most >= 0 && n > most {
			right = false
			return 0
		}
		return n
	}
	value := func() []byte { return part(number(2, 128)) }
	if r.Err = api.Errno(number(2, -1)); r.Err == 0 {
		switch op {
		case 1:
			r.Version = number(8, -1)
		case 2:
			if r.Found = number(1, 1) == 1; r.Found {
				r.Val = value()
			}
		case 3:
			copy(r.Sum[:], part(32))
		case 4, 5:
			r.Raw = part(in.Len())
		case 6:
			r.More = number(1, 1) == 1
			for range number(4, 4096) {
				x := api.Entry{Key: api.Key(part(32))}
				if x.Val = value(); !right {
					break
				}
				r.List = append(r.List, x)
			}
		case 7:
			for range number(4, 4096) {
				kind := number(1, 2)
				c := api.Change{Key: api.Key(part(32)), Del: kind == 2}
				if right = right && kind > 0; kind == 1 {
					c.Val = value()
				}
				if !right {
					break
				}
				r.Changes = append(r.Changes, c)
			}
		case 8:
			r.Info = api.Info{Width: number(1, -1), First: number(8, -1), Last: number(8, -1), Used: number(4, -1), Pages: number(4, -1), Keys: number(4, -1)}
			copy(r.Info.Sum[:], part(32))
		}
	}
	if !right || in.Len() > 0 {
		return api.Reply{}, false
	}
	return r, true
}

// told tells a reply with those fields alone that are laid down for a kind.
func told(op int, r api.Reply) api.Reply {
	if r.Err != 0 {
		return api.Reply{Err: r.Err}
	}
	switch op {
	case 1:
		return api.Reply{Version: r.Version}
	case 2:
		if r.Found {
			return api.Reply{Found: true, Val: r.Val}
		}
	case 3:
		return api.Reply{Sum: r.Sum}
	case 4, 5:
		return api.Reply{Raw: r.Raw}
	case 6:
		return api.Reply{More: r.More, List: r.List}
	case 7:
		changes := append([]api.Change(nil), r.Changes...)
		for i := range changes {
			if changes[i].Del {
				changes[i].Val = nil
			}
		}
		return api.Reply{Changes: changes}
	case 8:
		return api.Reply{Info: r.Info}
	}
	return api.Reply{}
}
