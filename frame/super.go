package frame

import (
	"ledger/api"
	"ledger/crc"
)

// letters begin every superblock.
const letters = "LDG1"

// The places of a superblock's fields; the bytes that are none's are zero.
const (
	widthAt      = len(letters)
	generationAt = 8
	markAt       = 16
	headAt       = 20
	pagesAt      = 24
	pagesEnd     = 28
	superSumAt   = 60
)

// sector is what reaches the disk whole or not at all.
type sector [api.SectorSize]byte

// PackSuper lays a superblock into a page.
func PackSuper(s api.Super) ([]byte, api.Errno) {
	if !valid(s) {
		return nil, api.ErrFrame
	}
	laid := laySuper(s)
	raw := make([]byte, api.PageSize)
	copy(raw, laid[:])
	return raw, api.OK
}

// UnpackSuper reads the superblock in a page's first sector.
func UnpackSuper(raw []byte) (api.Super, api.Errno) {
	if len(raw) != api.PageSize {
		return api.Super{}, api.ErrFrame
	}
	first := firstSector(raw)
	if !crc.Whole(first[:]) {
		return api.Super{}, api.ErrSum
	}
	s := readSuper(first)
	// The letters and the zeros are right just if what was read is laid down as it stands here.
	if !valid(s) || laySuper(s) != first {
		return api.Super{}, api.ErrFrame
	}
	return s, api.OK
}

// Choose tells which of the two slots' superblocks holds.
func Choose(a, b []byte) (api.Super, api.Errno) {
	even, evenErr := UnpackSuper(a)
	odd, oddErr := UnpackSuper(b)
	switch {
	case evenErr == api.OK && oddErr == api.OK:
		return newer(even, odd)
	case evenErr == api.OK && even.Generation == 0:
		// Whoever laid the first superblock did not come to the second one: no more is there than on an empty disk.
		fallthrough
	case isEmpty(a):
		if isEmpty(b) {
			return api.Super{}, api.ErrBlank
		}
	}
	return api.Super{}, api.ErrCorrupt
}

// newer tells which superblock of two that stand is the newer one, if that one follows the other.
func newer(even, odd api.Super) (api.Super, api.Errno) {
	// A generation lies in the slot of its own number; the other one, one apart, is then odd.
	if even.Generation%slots != 0 {
		return api.Super{}, api.ErrCorrupt
	}
	switch {
	case follows(even, odd):
		return even, api.OK
	case follows(odd, even):
		return odd, api.OK
	}
	return api.Super{}, api.ErrCorrupt
}

// follows tells whether a superblock may be the next one behind the old: the mark may have grown, the head is any, and all else is fixed.
func follows(next, old api.Super) bool {
	want := old
	want.Generation++
	want.Mark = max(old.Mark, next.Mark)
	want.Head = next.Head
	return next == want
}

// valid tells whether a superblock may say this.
func valid(s api.Super) bool {
	return s.Width >= 1 && s.Width <= api.MaxWidth &&
		s.Generation >= 0 && s.Generation <= api.MaxGeneration &&
		s.Pages >= api.MinPages && s.Pages <= api.MaxPages &&
		s.Mark >= slots && s.Mark <= s.Pages &&
		(s.Head == 0 || s.Head >= slots && s.Head < s.Mark)
}

// laySuper lays down a superblock that is valid.
func laySuper(s api.Super) sector {
	var body [superSumAt]byte
	copy(body[:], letters)
	body[widthAt] = byte(s.Width)
	layNumber(body[generationAt:markAt], s.Generation)
	layNumber(body[markAt:headAt], s.Mark)
	layNumber(body[headAt:pagesAt], s.Head)
	layNumber(body[pagesAt:pagesEnd], s.Pages)
	return sector(crc.Seal(body[:]))
}

// readSuper tells what stands at the places of the fields, valid or not.
func readSuper(first sector) api.Super {
	return api.Super{
		Width:      int(first[widthAt]),
		Generation: readNumber(first[generationAt:markAt]),
		Mark:       readNumber(first[markAt:headAt]),
		Head:       readNumber(first[headAt:pagesAt]),
		Pages:      readNumber(first[pagesAt:pagesEnd]),
	}
}

// isEmpty tells whether a slot is one into which nothing was ever laid.
func isEmpty(raw []byte) bool {
	return len(raw) == api.PageSize && firstSector(raw) == sector{}
}

// firstSector takes the first sector out of a page's bytes.
func firstSector(raw []byte) sector {
	return sector(raw[:api.SectorSize])
}
