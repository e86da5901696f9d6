package audit

import (
	"ledger/api"
	"ledger/frame"
	"ledger/index"
	"ledger/node"
)

// firstPage is the lowest number of a page that can be used: the ones below it are the superblocks' slots.
const firstPage = 2

// book is what an image holds, page by page.
type book struct {
	super  api.Super
	sheets []sheet       // by their pages: the slots, and behind them the used pages
	alone  []api.Finding // what is wrong with pages that are looked at alone
	ends   []int         // where the parts end: the records' pages by their numbers, and ahead of them what stands for the number 0
}

// sheet is one page, as far as it was read. One that does not stand alone, and a slot, has no kind.
type sheet struct {
	page   int
	raw    []byte // a piece of the image: read, and never handed on
	kind   int
	load   []byte
	node   api.Node
	record api.Record
}

// rule is something that a page is held to without any other one.
type rule interface {
	// finds tells what is wrong with a page, if it is one of the rule's. What it has read it notes for the rules behind it.
	finds(s *sheet) api.Errno
}

// slotTail: behind a superblock's sector all is zero.
type slotTail struct{}

// framing: a used page is one that frame takes.
type framing struct{}

// nodeForm: a leaf's or a branch's load is a node's.
type nodeForm struct{}

// recordForm: a record's load is a record's.
type recordForm struct{}

func (slotTail) finds(s *sheet) api.Errno {
	if s.page >= firstPage {
		return api.OK
	}
	for _, x := range s.raw[api.SectorSize:] {
		if x != 0 {
			return api.ErrFrame
		}
	}
	return api.OK
}

func (framing) finds(s *sheet) (e api.Errno) {
	if s.page < firstPage {
		return api.OK
	}
	s.kind, s.load, e = frame.Unpack(s.page, s.raw)
	return e
}

func (nodeForm) finds(s *sheet) (e api.Errno) {
	if s.kind != api.KindLeaf && s.kind != api.KindBranch {
		return api.OK
	}
	s.node, e = node.Decode(s.kind, s.load)
	return e
}

func (recordForm) finds(s *sheet) (e api.Errno) {
	if s.kind != api.KindRecord {
		return api.OK
	}
	s.record, e = index.Decode(s.load)
	return e
}

// read looks at each page of an image alone, if the image has a superblock that holds and fits it.
func read(image []byte) (*book, api.Errno) {
	if len(image)%api.PageSize != 0 {
		return nil, api.ErrSize
	}
	pages := len(image) / api.PageSize
	if pages < api.MinPages || pages > api.MaxPages {
		return nil, api.ErrPages
	}
	super, e := frame.Choose(rawPage(image, 0), rawPage(image, 1))
	if e != api.OK {
		return nil, e
	}
	if super.Pages != pages {
		return nil, api.ErrCorrupt
	}
	b := &book{super: super, ends: []int{firstPage - 1}}
	for page := range super.Mark {
		b.add(sheet{page: page, raw: rawPage(image, page)})
	}
	return b, api.OK
}

// rawPage tells the bytes of a page in an image.
func rawPage(image []byte, page int) []byte {
	from := page * api.PageSize
	return image[from : from+api.PageSize : from+api.PageSize]
}

// add holds a page to all rules, and lays it behind the others.
func (b *book) add(s sheet) {
	for _, r := range [...]rule{slotTail{}, framing{}, nodeForm{}, recordForm{}} {
		if e := r.finds(&s); e != api.OK {
			b.alone = append(b.alone, api.Finding{Page: s.page, Why: e})
			s.kind = 0
			break
		}
	}
	if s.kind == api.KindRecord {
		b.ends = append(b.ends, s.page)
	}
	b.sheets = append(b.sheets, s)
}

// newest tells the head's record, one of zeros if there is none that stands alone.
func (b *book) newest() api.Record {
	head := b.sheets[b.super.Head]
	if head.kind != api.KindRecord {
		return api.Record{}
	}
	return head.record
}

// report tells all of a Report but its findings.
func (b *book) report() api.Report {
	newest := b.newest()
	r := api.Report{
		Width: b.super.Width, Pages: b.super.Pages, Mark: b.super.Mark, Head: b.super.Head,
		First: newest.First, Last: newest.Version,
	}
	for _, s := range b.sheets {
		switch s.kind {
		case api.KindLeaf:
			r.Leaves++
		case api.KindBranch:
			r.Branches++
		case api.KindRecord:
			r.Records++
		}
	}
	return r
}

// findings tells all that is wrong with an image. Each version that is gone through and is right is shown, by its number, from the empty one on.
func (b *book) findings(show func(number int, h holding)) []api.Finding {
	if len(b.alone) > 0 {
		return b.alone
	}
	if f := courseOf(b).run(show); f.Why != api.OK {
		return []api.Finding{f}
	}
	return nil
}
