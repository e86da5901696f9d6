package frame_test

import (
	"bytes"
	"encoding/binary"
	"hash/crc32"
	"math/rand"
	"slices"
	"testing"

	"ledger/api"
	"ledger/frame"
)

const (
	highest = int(^uint(0) >> 1)
	lowest  = -highest - 1
)

// text makes n bytes, none of them zero, the same ones for the same n.
func text(n int) []byte {
	r := rand.New(rand.NewSource(int64(n) + 3))
	b := make([]byte, n)
	for i := range b {
		b[i] = byte(1 + r.Intn(255))
	}
	return b
}

// row tells bytes written out, with zeros behind them up to n.
func row(n int, first ...byte) []byte {
	return append(first, make([]byte, n-len(first))...)
}

// resum lays the right sum over the last four of a block's n first bytes.
func resum(b []byte, n int) []byte {
	binary.LittleEndian.PutUint32(b[n-4:], crc32.ChecksumIEEE(b[:n-4]))
	return b
}

// page is the table of the chapter's section 'A page', whatever the fields are.
func page(kind, length byte, number uint32, load []byte) []byte {
	b := make([]byte, 256)
	b[0], b[1] = kind, length
	binary.LittleEndian.PutUint32(b[2:], number)
	copy(b[6:252], load)
	return resum(b, 256)
}

// block is the table of the section 'A superblock', whatever the fields are, with zeros behind it.
func block(s api.Super) []byte {
	b := make([]byte, 256)
	copy(b, "LDG1")
	b[4] = byte(s.Width)
	binary.LittleEndian.PutUint64(b[8:], uint64(s.Generation))
	binary.LittleEndian.PutUint32(b[16:], uint32(s.Mark))
	binary.LittleEndian.PutUint32(b[20:], uint32(s.Head))
	binary.LittleEndian.PutUint32(b[24:], uint32(s.Pages))
	return resum(b, 64)
}

// with tells the same bytes with another one at one place.
func with(b []byte, at int, v byte) []byte {
	b = bytes.Clone(b)
	b[at] = v
	return b
}

// tailed tells a slot's bytes with others behind the first sector.
func tailed(b []byte) []byte {
	return slices.Concat(b[:64], text(192))
}

func wantBytes(t *testing.T, name string, got []byte, e api.Errno, want []byte) {
	t.Helper()
	if e != api.OK || !bytes.Equal(got, want) {
		t.Errorf("%s: %v, %d (%v), want %v", name, got, e, e, want)
	}
}

func wantNoBytes(t *testing.T, name string, got []byte, e, want api.Errno) {
	t.Helper()
	if got != nil || e != want {
		t.Errorf("%s: %v, %d (%v), want nil, %d (%v)", name, got, e, e, want, want)
	}
}

func wantLoad(t *testing.T, name string, number int, raw []byte, kind int, load []byte) {
	t.Helper()
	k, l, e := frame.Unpack(number, raw)
	if k != kind || !bytes.Equal(l, load) || e != api.OK {
		t.Errorf("%s: Unpack(%d, ..) = %d, %v, %d (%v), want %d, %v", name, number, k, l, e, e, kind, load)
	}
}

func wantNoLoad(t *testing.T, name string, number int, raw []byte, want api.Errno) {
	t.Helper()
	if k, l, e := frame.Unpack(number, raw); k != 0 || l != nil || e != want {
		t.Errorf("%s: Unpack(%d, ..) = %d, %v, %d (%v), want 0, nil, %d (%v)", name, number, k, l, e, e, want, want)
	}
}

// wantSuper asks for a Super and OK, or, with an error, for one of zeros.
func wantSuper(t *testing.T, name string, got api.Super, e api.Errno, want api.Super, wantErr api.Errno) {
	t.Helper()
	if got != want || e != wantErr {
		t.Errorf("%s: %+v, %d (%v), want %+v, %d (%v)", name, got, e, e, want, wantErr, wantErr)
	}
}

// overwrite turns every bit of b and of the spare room behind it.
func overwrite(b []byte) {
	b = b[:cap(b)]
	for i := range b {
		b[i] ^= 255
	}
}
