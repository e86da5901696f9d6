package desk_test

import (
	"bytes"
	"testing"

	"ledger/api"
	"ledger/desk"
)

// replyIs asks of both codecs what the chapter says of a reply to a kind of request.
func replyIs(t *testing.T, op int, r api.Reply) {
	t.Helper()
	want, right := plainBytes(op, r)
	b, e := desk.EncodeReply(op, r)
	if !right {
		if e != api.ErrRequest || b != nil {
			t.Errorf("P20.4: EncodeReply(%d, %s) = %d bytes, %d, want ErrRequest", op, some(r), len(b), e)
		}
		return
	}
	if e != api.OK || !bytes.Equal(b, want) {
		t.Errorf("P20.4: EncodeReply(%d, %s) = %s, %d, want %s", op, some(r), some(b), e, some(want))
		return
	}
	if back, e := desk.DecodeReply(op, b); e != api.OK || !sameReply(back, told(op, r)) {
		t.Errorf("P20.6: the reply to %d, %s, comes back as %s, %d", op, some(r), some(back), e)
	}
}

// bytesAre asks of both codecs what the chapter says of bytes as the reply to a kind of request.
func bytesAre(t *testing.T, op int, b []byte) {
	t.Helper()
	want, right := plainReply(op, b)
	r, e := desk.DecodeReply(op, b)
	if !right {
		if e != api.ErrRequest || !sameReply(r, api.Reply{}) {
			t.Errorf("P20.5: DecodeReply(%d, %s), %d bytes: %s, %d, want ErrRequest", op, some(b), len(b), some(r), e)
		}
		return
	}
	if e != api.OK || !sameReply(r, want) {
		t.Errorf("P20.5: DecodeReply(%d, %s), %d bytes: %s, %d, want %s", op, some(b), len(b), some(r), e, some(want))
		return
	}
	if back, e := desk.EncodeReply(op, r); e != api.OK || !bytes.Equal(back, b) {
		t.Errorf("P20.6: the reply to %d, %s, comes back as %s, %d", op, some(b), some(back), e)
	}
}

// filled tells a reply all of whose fields are set and can be laid down.
func filled() api.Reply {
	return api.Reply{
		Version: -258, Found: true, More: true, Val: []byte("ab"), Sum: api.Digest{1, 31: 2}, Raw: []byte(text(1, 70)),
		List:    []api.Entry{{Key: keyK, Val: []byte("x")}, {Key: low}},
		Changes: []api.Change{{Key: keyQ, Del: true, Val: []byte("unseen")}, {Key: keyK, Val: []byte("yz")}, {Key: keyK}},
		Info:    api.Info{Width: 32, First: -3, Last: 1 << 30, Used: 513, Pages: 4096, Keys: 1<<32 - 1, Sum: api.Digest{9, 30: 8}},
	}
}

// spoilt tells a reply none of whose fields can be laid down, where there is such a value.
func spoilt() api.Reply {
	r := filled()
	r.Val, r.Raw = make([]byte, 129), make([]byte, 1<<20)
	r.List, r.Changes = make([]api.Entry, 4097), []api.Change{{Val: make([]byte, 129)}}
	r.Info = api.Info{Width: 256, Used: -1, Pages: 1 << 32, Keys: -1}
	return r
}

// P20.4, P20.6: every number of an error, for each kind and for numbers that are none. With an error nothing else is looked at.
func TestErrorsOfReplies(t *testing.T) {
	for _, op := range ops {
		for _, n := range []int{lowest, -65536, -1, 0, 1, 2, 4, 200, 201, 255, 256, 257, 32768, 65535, 65536, 65537, 1 << 32, highest} {
			for _, r := range []api.Reply{{}, filled(), spoilt()} {
				r.Err = api.Errno(n)
				replyIs(t, op, r)
			}
		}
	}
}

// P20.4, P20.6: what the kind does not have is not looked at: each kind's own fields right, all others such that they can't be laid down.
func TestFieldsOfOtherKinds(t *testing.T) {
	right := filled()
	for op := 1; op <= 9; op++ {
		r := spoilt()
		switch op {
		case 2:
			r.Val = right.Val
		case 6:
			r.List = right.List
		case 7:
			r.Changes = right.Changes
		case 8:
			r.Info = right.Info
		}
		if b, e := desk.EncodeReply(op, r); e != api.OK {
			t.Errorf("P20.4: EncodeReply(%d): %d bytes, %d, want OK", op, len(b), e)
		}
		replyIs(t, op, r)
		replyIs(t, op, right)
		replyIs(t, op, api.Reply{})
	}
}

// P20.4, P20.6: values of all lengths about the bound, in Val with and without Found, at every place of List, in puts and in deletes of Changes.
func TestValuesOfReplies(t *testing.T) {
	for _, n := range []int{0, 1, 127, 128, 129, 255, 256, 384, 65535, 65536, 65664} {
		val := []byte(text(n, n))
		for op := 1; op <= 9; op++ {
			for _, found := range []bool{false, true} {
				replyIs(t, op, api.Reply{Found: found, Val: val})
			}
			for place := range 3 {
				r := api.Reply{List: make([]api.Entry, 3), Changes: make([]api.Change, 3)}
				r.List[place] = api.Entry{Key: keyK, Val: val}
				for _, gone := range []bool{false, true} {
					r.Changes[place] = api.Change{Key: keyQ, Del: gone, Val: val}
					replyIs(t, op, r)
				}
			}
		}
	}
}

// P20.4, P20.6: lists and changes of none up to MaxList and more; keys in any order, one more than once.
func TestListsOfReplies(t *testing.T) {
	for _, n := range []int{0, 1, 2, 255, 256, 257, 4095, 4096, 4097, 65536} {
		r := api.Reply{List: make([]api.Entry, n), Changes: make([]api.Change, n)}
		for i := range n {
			k := api.Key{byte(i), byte(i >> 9)}
			r.List[i] = api.Entry{Key: k, Val: []byte(text(i, i%5))}
			r.Changes[i] = api.Change{Key: k, Del: i%3 == 1, Val: []byte(text(i, i%7))}
		}
		for _, more := range []bool{false, true} {
			r.More = more
			for op := 1; op <= 9; op++ {
				replyIs(t, op, r)
			}
		}
	}
}

// P20.4, P20.6: the numbers of Info at and beyond their ends.
func TestInfosOfReplies(t *testing.T) {
	for _, n := range []int{lowest, -1 << 32, -1, 0, 1, 32, 33, 255, 256, 257, 1 << 31, 1<<32 - 1, 1 << 32, 1<<32 + 5, 1 << 56, highest} {
		for op := 1; op <= 9; op++ {
			for _, i := range []api.Info{{Width: n}, {First: n}, {Last: n}, {Used: n}, {Pages: n}, {Keys: n}, {Width: 4, First: n, Last: n, Used: 7, Pages: 8, Keys: 9, Sum: api.Digest{3}}} {
				replyIs(t, op, api.Reply{Info: i})
			}
		}
	}
}

// P20.4, P20.6: Version may be any number, Raw any bytes, Sum any digest.
func TestPlainFieldsOfReplies(t *testing.T) {
	for op := 1; op <= 9; op++ {
		for _, v := range versions {
			replyIs(t, op, api.Reply{Version: v, Sum: api.Digest{byte(v), 31: byte(v >> 8)}})
		}
		for _, n := range []int{0, 1, 2, 200, 12000, 12001, 1 << 20} {
			replyIs(t, op, api.Reply{Raw: []byte(text(n, n))})
		}
	}
}

// P20.4, P20.5: the bytes of each kind, written out.
func TestRepliesWrittenOut(t *testing.T) {
	k, q, r := keyK[:], keyQ[:], filled()
	for _, c := range []struct {
		op    int
		parts [][]byte
	}{
		{1, [][]byte{{0, 0, 254, 254, 255, 255, 255, 255, 255, 255}}},
		{2, [][]byte{{0, 0, 1, 2, 0, 97, 98}}},
		{3, [][]byte{{0, 0, 1}, make([]byte, 30), {2}}},
		{4, [][]byte{{0, 0}, r.Raw}},
		{5, [][]byte{{0, 0}, r.Raw}},
		{6, [][]byte{{0, 0, 1, 2, 0, 0, 0}, k, {1, 0, 'x'}, make([]byte, 32), {0, 0}}},
		{7, [][]byte{{0, 0, 3, 0, 0, 0, 2}, q, {1}, k, {2, 0, 'y', 'z'}, {1}, k, {0, 0}}},
		{8, [][]byte{{0, 0, 32}, {253, 255, 255, 255, 255, 255, 255, 255}, {0, 0, 0, 64, 0, 0, 0, 0}, {1, 2, 0, 0}, {0, 16, 0, 0}, {255, 255, 255, 255}, {9}, make([]byte, 29), {8, 0}}},
		{9, [][]byte{{0, 0}}},
	} {
		want := bytes.Join(c.parts, nil)
		if b, e := desk.EncodeReply(c.op, r); e != api.OK || !bytes.Equal(b, want) {
			t.Errorf("P20.4: EncodeReply(%d) = %v, %d, want %v", c.op, b, e, want)
		}
		if back, e := desk.DecodeReply(c.op, want); e != api.OK || !sameReply(back, told(c.op, r)) {
			t.Errorf("P20.5: DecodeReply(%d, %v) = %+v, %d", c.op, want, back, e)
		}
	}
}

// someBytes tells the bytes of replies of each kind, and of an error.
func someBytes() (all [][]byte) {
	for op := 1; op <= 9; op++ {
		for _, r := range []api.Reply{filled(), {}, {Found: true, List: []api.Entry{{}}, Changes: []api.Change{{Del: true}}}, {Err: 258}} {
			b, _ := plainBytes(op, r)
			all = append(all, b)
		}
	}
	return all
}

// P20.5, P20.6: the bytes of replies cut at every byte and with more bytes, read as the reply to each kind and to numbers that are none.
func TestRepliesCutAndLonger(t *testing.T) {
	for _, b := range someBytes() {
		for _, op := range ops {
			for n := range b {
				bytesAre(t, op, b[:n])
			}
			bytesAre(t, op, b)
			for _, more := range [][]byte{{0}, {1}, {255}, make([]byte, 8), make([]byte, 70)} {
				bytesAre(t, op, append(bytes.Clone(b), more...))
			}
		}
	}
}

// P20.5, P20.6: each byte of a reply changed to all others, read as the reply to each kind.
func TestRepliesChanged(t *testing.T) {
	t.Parallel()
	for _, b := range someBytes() {
		for i := range b {
			other := bytes.Clone(b)
			for n := range 256 {
				other[i] = byte(n)
				for op := 1; op <= 9; op++ {
					bytesAre(t, op, other)
				}
			}
		}
	}
}

// P20.5: lengths about MaxVal with as many bytes behind them, in Val, in List and in Changes; and a length whose higher byte alone is set.
func TestLengthsInReplies(t *testing.T) {
	for _, n := range []int{0, 127, 128, 129, 255, 256, 257, 512, 65535} {
		for _, bytesBehind := range []int{n - 1, n, n + 1} {
			if bytesBehind < 0 {
				continue
			}
			val := append([]byte{byte(n), byte(n >> 8)}, text(n, bytesBehind)...)
			bytesAre(t, 2, append([]byte{0, 0, 1}, val...))
			bytesAre(t, 6, bytes.Join([][]byte{{0, 0, 0, 1, 0, 0, 0}, keyK[:], val}, nil))
			bytesAre(t, 7, bytes.Join([][]byte{{0, 0, 1, 0, 0, 0, 1}, keyK[:], val}, nil))
		}
	}
}

// P20.5: numbers of entries and of changes about MaxList, with as many of them behind, with one less and one more; and numbers whose higher bytes alone are set.
func TestCountsInReplies(t *testing.T) {
	entry := append(keyK[:], 0, 0)
	gone := append([]byte{2}, keyK[:]...)
	for _, n := range []int{0, 1, 2, 256, 4095, 4096, 4097, 1 << 16, 1 << 24, 1<<32 - 1} {
		count := []byte{byte(n), byte(n >> 8), byte(n >> 16), byte(n >> 24)}
		for _, behind := range []int{0, min(n, 4100) - 1, min(n, 4100), min(n, 4100) + 1} {
			if behind < 0 {
				continue
			}
			bytesAre(t, 6, bytes.Join([][]byte{{0, 0, 1}, count, bytes.Repeat(entry, behind)}, nil))
			bytesAre(t, 7, bytes.Join([][]byte{{0, 0}, count, bytes.Repeat(gone, behind)}, nil))
		}
	}
}

// P20.5, P20.6: drawn bytes, read as the reply to each kind.
func TestDrawnReplies(t *testing.T) {
	t.Parallel()
	rnd := drawn(21)
	for range 30000 {
		b := make([]byte, []int{0, 1, 2, 3, 7, 10, 34, 40, 63, rnd.Intn(120)}[rnd.Intn(10)])
		rnd.Read(b)
		for i := range b {
			if i < 7 && rnd.Intn(3) > 0 {
				b[i] %= 3
			}
			if i < 2 && rnd.Intn(4) > 0 {
				b[i] = 0
			}
		}
		for op := 0; op <= 10; op++ {
			bytesAre(t, op, b)
		}
	}
}
