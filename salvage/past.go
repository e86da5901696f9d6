package salvage

import (
	"sort"

	"ledger/api"
	"ledger/audit"
	"ledger/frame"
	"ledger/index"
)

// past is what an image may be cut back to, under one superblock.
type past struct {
	super api.Super
	raw   []byte // the image: read, and never handed on
	ends  []int  // the pages of the records that count, by their numbers, and ahead of them what stands for the number 0
}

// beginning is a cut that is clean.
type beginning struct {
	image       []byte
	number      int // of the last record in it
	first, last int // versions
}

// pastOf tells the past of an image as it is, under the superblock that holds.
func pastOf(image []byte) (*past, api.Errno) {
	if e := sized(image); e != api.OK {
		return nil, e
	}
	super, e := chosen(image)
	if e != api.OK {
		return nil, e
	}
	return pastUnder(super, image), api.OK
}

// pastUnder seeks the records that count under a superblock.
func pastUnder(super api.Super, image []byte) *past {
	p := &past{super: super, raw: image, ends: []int{slots - 1}}
	for page := slots; page < super.Mark; page++ {
		if isRecord(page, rawPage(image, page)) {
			p.ends = append(p.ends, page)
		}
	}
	return p
}

// isRecord tells whether a page stands alone as a record.
func isRecord(page int, raw []byte) bool {
	kind, load, e := frame.Unpack(page, raw)
	if e != api.OK || kind != api.KindRecord {
		return false
	}
	_, e = index.Decode(load)
	return e == api.OK
}

// whole tells the longest cut that is clean. What is wrong in one is so in all that go on behind it: so it can be searched for by halves.
func (p *past) whole() beginning {
	best := beginning{image: p.cut(0)}
	sort.Search(len(p.ends)-1, func(i int) bool {
		image := p.cut(i + 1)
		report, e := audit.Check(image)
		if e != api.OK || len(report.Findings) > 0 {
			return true
		}
		// Behind a clean one only longer ones are asked for: the last one that was met is the longest.
		best = beginning{image, i + 1, report.First, report.Last}
		return false
	})
	return best
}

// cut makes the image that ends with the record of a number, as if nothing had come behind it.
func (p *past) cut(number int) []byte {
	image := make([]byte, len(p.raw))
	used := (p.ends[number] + 1) * api.PageSize
	copy(image[:used], p.raw)
	for _, generation := range [...]int{number, number + 1} {
		copy(rawPage(image, generation%slots), p.slot(generation))
	}
	return image
}

// slot makes the superblock of a generation. The first two name no record, and each one behind them the next one.
func (p *past) slot(generation int) []byte {
	s := api.Super{Width: p.super.Width, Generation: generation, Mark: slots, Pages: p.super.Pages}
	if generation > 1 {
		s.Head = p.ends[generation-1]
		s.Mark = s.Head + 1
	}
	raw, _ := frame.PackSuper(s) // always valid: the head is a page below the mark
	return raw
}
