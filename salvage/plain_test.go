package salvage_test

import (
	"bytes"
	"encoding/binary"
	"hash/crc32"

	"ledger/api"
	"ledger/audit"
	"ledger/frame"
	"ledger/index"
)

// What follows reads the promises P23.1 to P23.8 word for word: every bit is tried, every cut is made, from the longest one on. Its shape is not the program's.

// reading is what there is to know of one image under one superblock.
type reading struct {
	image       []byte
	super       api.Super
	r           []int // r(1), r(2), ..
	i           int   // the greatest one of which the cut is clean
	first, last int
}

// standsInFrame reads P23.1.
func standsInFrame(page int, b []byte) bool {
	if page < 2 {
		_, e := frame.UnpackSuper(b)
		return e == api.OK
	}
	_, _, e := frame.Unpack(page, b)
	return e == api.OK
}

// sealed tells whether the last four bytes are the checksum of the others, by the library's CRC-32.
func sealed(b []byte) bool {
	end := len(b) - 4
	return binary.LittleEndian.Uint32(b[end:]) == crc32.ChecksumIEEE(b[:end])
}

// mended reads P23.1: a page's bytes, mended if they can be. It panics if more than one bit does it.
func mended(page int, b []byte) []byte {
	if standsInFrame(page, b) {
		return b
	}
	block := bytes.Clone(b)
	if page < 2 {
		block = block[:64]
	}
	var found []byte
	for bit := range 8 * len(block) {
		block[bit/8] ^= 1 << (bit % 8)
		if sealed(block) {
			c := append(bytes.Clone(block), b[len(block):]...)
			if standsInFrame(page, c) {
				if found != nil {
					panic("P23.1: two bits heal one page")
				}
				found = c
			}
		}
		block[bit/8] ^= 1 << (bit % 8)
	}
	if found != nil {
		return found
	}
	return b
}

// slotsMended reads P23.2.
func slotsMended(image []byte) []byte {
	for slot := range 2 {
		b := mended(slot, image[256*slot:256*slot+256])
		if standsInFrame(slot, b) {
			b = append(bytes.Clone(b[:64]), make([]byte, 192)...)
		}
		image = laid(image, slot, b)
	}
	return image
}

// pagesMended mends the used pages.
func pagesMended(image []byte, mark int) []byte {
	for page := 2; page < mark; page++ {
		image = laid(image, page, mended(page, image[256*page:256*page+256]))
	}
	return image
}

// length reads what is asked first in each of the calls.
func length(image []byte) api.Errno {
	switch n := len(image); {
	case n%256 > 0:
		return api.ErrSize
	case n < 3*256 || n > 4096*256:
		return api.ErrPages
	}
	return api.OK
}

// holding tells the superblock that frame.Choose takes, if it states the image's pages.
func holding(image []byte) (api.Super, api.Errno) {
	s, e := frame.Choose(image[:256], image[256:512])
	if e != api.OK {
		return api.Super{}, e
	}
	if s.Pages != len(image)/256 {
		return api.Super{}, api.ErrCorrupt
	}
	return s, api.OK
}

// readMend reads P23.5.
func readMend(image []byte) ([]byte, []int, api.Errno) {
	if e := length(image); e != api.OK {
		return nil, nil, e
	}
	was := image
	image = slotsMended(image)
	s, e := holding(image)
	if e != api.OK {
		return nil, nil, e
	}
	image = pagesMended(image, s.Mark)
	var pages []int
	for page := range len(image) / 256 {
		for at := 256 * page; at < 256*page+256; at++ {
			if image[at] != was[at] {
				pages = append(pages, page)
				break
			}
		}
	}
	return image, pages, api.OK
}

// readWhole reads P23.6: what there is under the superblock that holds.
func readWhole(image []byte) (*reading, api.Errno) {
	if e := length(image); e != api.OK {
		return nil, e
	}
	s, e := holding(image)
	if e != api.OK {
		return nil, e
	}
	return readings(image, s), api.OK
}

// readings reads P23.3 and P23.4.
func readings(image []byte, s api.Super) *reading {
	x := &reading{image: image, super: s}
	for page := 2; page <= s.Mark-1; page++ {
		kind, load, e := frame.Unpack(page, image[256*page:256*page+256])
		if e != api.OK || kind != api.KindRecord {
			continue
		}
		if _, e := index.Decode(load); e == api.OK {
			x.r = append(x.r, page)
		}
	}
	for x.i = len(x.r); x.i > 0; x.i-- {
		if r, e := audit.Check(x.cut(x.i)); e == api.OK && len(r.Findings) == 0 {
			x.first, x.last = r.First, r.Last
			break
		}
	}
	return x
}

// page tells r(i), 1 where i is 0.
func (x *reading) page(i int) int {
	if i == 0 {
		return 1
	}
	return x.r[i-1]
}

// cut reads P23.3.
func (x *reading) cut(i int) []byte {
	var slots [2][]byte
	for _, g := range []int{i, i + 1} {
		s := api.Super{Width: x.super.Width, Generation: g, Mark: 2, Pages: x.super.Pages}
		if g >= 2 {
			s.Mark, s.Head = x.page(g-1)+1, x.page(g-1)
		}
		slots[g%2] = block(s)
	}
	b := append(slots[0], slots[1]...)
	b = append(b, x.image[512:256*(x.page(i)+1)]...)
	return append(b, make([]byte, 256*x.super.Pages-len(b))...)
}

// readCut reads P23.7, but for what Whole refuses.
func (x *reading) readCut(version int) ([]byte, api.Errno) {
	if version == -1 {
		version = x.last
	}
	switch {
	case version < -1 || version > x.last:
		return nil, api.ErrVersion
	case version < x.first:
		return nil, api.ErrGone
	case x.first == 0:
		return x.cut(version), api.OK
	}
	return x.cut(version - x.first + 1), api.OK
}

// readRescue reads P23.8.
func readRescue(image []byte) ([]byte, int, api.Errno) {
	if e := length(image); e != api.OK {
		return nil, 0, e
	}
	image = slotsMended(image)
	s, e := frame.Choose(image[:256], image[256:512])
	switch e {
	case api.ErrBlank:
		return nil, 0, e
	case api.ErrCorrupt:
		var has []api.Super
		for slot := range 2 {
			one, e := frame.UnpackSuper(image[256*slot : 256*slot+256])
			if e == api.OK && one.Pages == len(image)/256 {
				has = append(has, one)
			}
		}
		switch {
		case len(has) == 0:
			return nil, 0, api.ErrCorrupt
		case len(has) == 2 && has[1].Generation > has[0].Generation:
			s = has[1]
		default:
			s = has[0]
		}
	default:
		if s.Pages != len(image)/256 {
			return nil, 0, api.ErrCorrupt
		}
	}
	x := readings(pagesMended(image, s.Mark), s)
	return x.cut(x.i), x.last, api.OK
}
