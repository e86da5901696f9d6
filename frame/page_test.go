package frame_test

import (
	"bytes"
	"fmt"
	"math/rand"
	"testing"

	"ledger/api"
	"ledger/frame"
)

// Numbers that are no kind and no page, those among them that a byte, or four, would take for one.
var (
	wrongKinds = []int{lowest, -256 + 1, -1, 0, 4, 5, 255, 256, 256 + 1, 256 + 2, 1<<32 + 1, highest}
	wrongPages = []int{lowest, -4095, -2, -1, 0, 1, 4096, 4097, 65536 + 2, 1 << 32, 1<<32 + 2, highest}
	rightPages = []int{2, 3, 7, 255, 256, 257, 258, 4094, 4095}
	loadSizes  = []int{0, 1, 2, 33, 127, 128, 244, 245, 246}
)

func TestPackLaysTheTable(t *testing.T) {
	for kind := 1; kind <= 3; kind++ {
		for _, number := range rightPages {
			for _, n := range loadSizes {
				got, e := frame.Pack(kind, number, text(n))
				want := page(byte(kind), byte(n), uint32(number), text(n))
				wantBytes(t, fmt.Sprintf("P5.1: Pack(%d, %d, %d bytes)", kind, number, n), got, e, want)
			}
		}
	}
}

func TestPackAtEveryPageAndLength(t *testing.T) {
	for number := 2; number <= 4095; number++ {
		n := number % 247
		got, e := frame.Pack(2, number, text(n))
		wantBytes(t, fmt.Sprintf("P5.1: Pack(2, %d, %d bytes)", number, n), got, e, page(2, byte(n), uint32(number), text(n)))
	}
}

func TestPackOfNilAndEmptyIsTheSame(t *testing.T) {
	first, e := frame.Pack(1, 9, nil)
	wantBytes(t, "P5.8: Pack(1, 9, nil)", first, e, page(1, 0, 9, nil))
	second, e := frame.Pack(1, 9, []byte{})
	wantBytes(t, "P5.8: Pack(1, 9, no bytes)", second, e, first)
}

func TestPackRefuses(t *testing.T) {
	places := append([]int{2, 4095}, wrongPages...)
	lengths := []int{0, 246, 247, 248, 256, 257, 1000}
	for _, kind := range wrongKinds {
		for _, number := range places {
			for _, n := range lengths {
				got, e := frame.Pack(kind, number, make([]byte, n))
				wantNoBytes(t, fmt.Sprintf("P5.1: Pack(%d, %d, %d bytes)", kind, number, n), got, e, api.ErrKind)
			}
		}
	}
	for kind := 1; kind <= 3; kind++ {
		for _, number := range wrongPages {
			for _, n := range lengths {
				got, e := frame.Pack(kind, number, make([]byte, n))
				wantNoBytes(t, fmt.Sprintf("P5.1: Pack(%d, %d, %d bytes)", kind, number, n), got, e, api.ErrPlace)
			}
		}
		for _, n := range lengths[2:] {
			got, e := frame.Pack(kind, 2, make([]byte, n))
			wantNoBytes(t, fmt.Sprintf("P5.1: Pack(%d, 2, %d bytes)", kind, n), got, e, api.ErrLoad)
		}
	}
}

func TestUnpackReadsTheTable(t *testing.T) {
	for kind := 1; kind <= 3; kind++ {
		for _, number := range rightPages {
			for _, n := range loadSizes {
				wantLoad(t, "P5.2", number, page(byte(kind), byte(n), uint32(number), text(n)), kind, text(n))
				wantLoad(t, "P5.2: a load of zeros", number, page(byte(kind), byte(n), uint32(number), nil), kind, make([]byte, n))
			}
		}
	}
}

func TestUnpackOfAWrongNumberComesFirst(t *testing.T) {
	for _, number := range wrongPages {
		wantNoLoad(t, "P5.2: no bytes", number, nil, api.ErrPlace)
		wantNoLoad(t, "P5.2: zeros", number, make([]byte, 256), api.ErrPlace)
		wantNoLoad(t, "P5.2: a page that says so itself", number, page(1, 1, uint32(number), text(1)), api.ErrPlace)
	}
}

func TestUnpackOfAWrongLength(t *testing.T) {
	whole := page(1, 3, 2, []byte("abc"))
	long := append(bytes.Clone(whole), whole...)
	for _, n := range []int{0, 1, 4, 6, 10, 64, 252, 255, 257, 260, 511, 512} {
		wantNoLoad(t, fmt.Sprintf("P5.2: %d bytes", n), 2, long[:n], api.ErrFrame)
	}
	wantNoLoad(t, "P5.2: nil", 2, nil, api.ErrFrame)
	wantNoLoad(t, "P5.2: 255 bytes, sealed", 2, resum(page(1, 3, 2, nil)[:255], 255), api.ErrFrame)
	wantNoLoad(t, "P5.2: 257 bytes, sealed", 2, resum(append(page(1, 3, 2, nil), 0), 257), api.ErrFrame)
}

func TestUnpackOfAWrongSumComesAheadOfTheFields(t *testing.T) {
	for at := 252; at < 256; at++ {
		for _, raw := range [][]byte{page(1, 3, 2, []byte("abc")), page(9, 255, 77, text(246)), page(1, 255, 2, nil), page(1, 0, 2, text(1))} {
			wantNoLoad(t, "P5.2", 2, with(raw, at, raw[at]+1), api.ErrSum)
		}
	}
}

func TestUnpackOfEveryFirstByte(t *testing.T) {
	for kind := range 256 {
		raw := page(byte(kind), 3, 2, []byte("abc"))
		if kind >= 1 && kind <= 3 {
			wantLoad(t, "P5.2", 2, raw, kind, []byte("abc"))
			continue
		}
		wantNoLoad(t, fmt.Sprintf("P5.2: kind %d", kind), 2, raw, api.ErrKind)
		wantNoLoad(t, fmt.Sprintf("P5.2: kind %d, all else wrong too", kind), 2, page(byte(kind), 255, 77, text(246)), api.ErrKind)
	}
}

func TestUnpackOfEveryLength(t *testing.T) {
	full := text(246)
	for n := range 256 {
		raw := page(2, byte(n), 300, full[:min(n, 246)])
		if n <= 246 {
			wantLoad(t, "P5.2", 300, raw, 2, full[:n])
			continue
		}
		wantNoLoad(t, fmt.Sprintf("P5.2: a load of %d bytes", n), 300, raw, api.ErrLoad)
		wantNoLoad(t, fmt.Sprintf("P5.2: a load of %d bytes, read as another page", n), 301, raw, api.ErrLoad)
	}
}

func TestUnpackUnderAnotherNumber(t *testing.T) {
	for _, number := range []uint32{0, 1, 2, 3, 258, 4095, 4096, 1<<16 + 2, 1<<24 + 2, 1<<31 + 2, 1<<32 - 1} {
		for _, asked := range rightPages {
			if uint32(asked) != number {
				wantNoLoad(t, fmt.Sprintf("P5.2: page %d", number), asked, page(1, 3, number, []byte("abc")), api.ErrPlace)
				wantNoLoad(t, fmt.Sprintf("P5.2: page %d, more bytes behind the load", number), asked, page(1, 2, number, []byte("abc")), api.ErrPlace)
			}
		}
	}
}

func TestUnpackOfABytePastTheLoad(t *testing.T) {
	for _, n := range loadSizes {
		raw := page(3, byte(n), 5, text(n))
		for at := 6 + n; at < 252; at++ {
			for _, v := range []byte{1, 128, 255} {
				wantNoLoad(t, fmt.Sprintf("P5.2: byte %d is %d behind a load of %d", at, v, n), 5, resum(with(raw, at, v), 256), api.ErrFrame)
			}
		}
	}
}

// refUnpack is P5.2, word for word, behind the sum.
func refUnpack(number int, raw []byte) (int, []byte, api.Errno) {
	in := int(raw[2]) + int(raw[3])*256 + int(raw[4])*65536 + int(raw[5])*16777216
	switch {
	case raw[0] != 1 && raw[0] != 2 && raw[0] != 3:
		return 0, nil, api.ErrKind
	case raw[1] > 246:
		return 0, nil, api.ErrLoad
	case in != number:
		return 0, nil, api.ErrPlace
	}
	end := 6 + int(raw[1])
	if !bytes.Equal(raw[end:252], make([]byte, 252-end)) {
		return 0, nil, api.ErrFrame
	}
	return int(raw[0]), raw[6:end], api.OK
}

// Pages with a few bytes changed and the sum right again: each is refused as the document says, or is what Pack answers for what was told.
func TestUnpackTakesNoTwoTextsForTheSame(t *testing.T) {
	r := rand.New(rand.NewSource(1))
	taken := 0
	for range 60000 {
		number, n := 2+r.Intn(4094), r.Intn(247)
		raw := page(byte(r.Intn(5)), byte(n), uint32(number), text(n))
		for range r.Intn(3) {
			at := []int{r.Intn(6), 6 + r.Intn(246), min(6+n, 251)}[r.Intn(3)]
			raw[at] = []byte{0, 1, 2, 246, 247, byte(r.Intn(256))}[r.Intn(6)]
		}
		resum(raw, 256)
		kind, load, e := refUnpack(number, raw)
		if e != api.OK {
			wantNoLoad(t, fmt.Sprintf("P5.2: %v", raw), number, raw, e)
			continue
		}
		taken++
		wantLoad(t, fmt.Sprintf("P5.2: %v", raw), number, raw, kind, load)
		k, l, _ := frame.Unpack(number, raw)
		again, e := frame.Pack(k, number, l)
		wantBytes(t, "P5.6: Pack of what Unpack told", again, e, raw)
	}
	if taken < 1000 {
		t.Errorf("only %d pages were taken", taken)
	}
}

func TestPackAndBack(t *testing.T) {
	for number := 2; number <= 4095; number++ {
		kind, load := 1+number%3, text(number%247)
		raw, e := frame.Pack(kind, number, load)
		if e != api.OK {
			t.Fatalf("P5.6: Pack(%d, %d, %d bytes): %v", kind, number, len(load), e)
		}
		wantLoad(t, "P5.6", number, raw, kind, load)
	}
}
