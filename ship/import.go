package ship

import (
	"ledger/api"
	"ledger/disk"
	"ledger/file"
	"ledger/frame"
	"ledger/index"
	"ledger/ledger"
	"ledger/store"
	"ledger/tree"
)

// slots is how many pages the superblocks take.
const slots = 2

// takeIn is Import with its refusal as a number, and the version at which it is told. All refusals but the loss of power come ahead of the first write.
func takeIn(d *disk.Disk, room int, stream []byte) (*ledger.Ledger, int, api.Errno) {
	if e := ready(d, room); e != api.OK {
		return nil, noVersion, e
	}
	c, e := unload(stream)
	if e != api.OK {
		return nil, noVersion, e
	}
	if e := blank(d); e != api.OK {
		return nil, noVersion, e
	}
	if at, e := c.fits(d.Pages()); e != api.OK {
		return nil, at, e
	}
	l, e := c.layDown(d, room)
	return l, noVersion, e
}

// ready tells whether there is a disk with power, and a room that may be.
func ready(d *disk.Disk, room int) api.Errno {
	switch {
	case d == nil:
		return api.ErrArg
	case !d.Power():
		return api.ErrDown
	case room < 1 || room > api.MaxRoom:
		return api.ErrArg
	}
	return api.OK
}

// blank tells whether nothing was ever laid onto a disk to the end.
func blank(d *disk.Disk) api.Errno {
	one, e := d.Read(0)
	if e != api.OK {
		return e
	}
	two, e := d.Read(1)
	if e != api.OK {
		return e
	}
	if _, e := frame.Choose(one, two); e != api.ErrBlank {
		return api.ErrTaken
	}
	return api.OK
}

// fits tells whether each version holds, and whether so many pages are enough for all of them.
func (c cargo) fits(pages int) (int, api.Errno) {
	need := slots
	r := newRooter(c.Width)
	for v := range c.versions() {
		if r.root(v.held) != v.sum {
			return v.number, api.ErrMismatch
		}
		if v.number > 0 {
			need += cost(v.old, v.held, v.changes) + 1
		}
	}
	if need > pages {
		return noVersion, api.ErrFull
	}
	return noVersion, api.OK
}

// layDown makes the ledger on a disk that is blank and great enough.
func (c cargo) layDown(d *disk.Disk, room int) (*ledger.Ledger, api.Errno) {
	if e := file.Format(d, c.Width); e != api.OK {
		return nil, e
	}
	if c.From > 0 {
		if e := c.layBase(d, room); e != api.OK {
			return nil, e
		}
	}
	l, err := ledger.Open(d, room)
	if err != nil {
		return nil, ledger.Code(err)
	}
	for _, s := range c.steps[1:] {
		if _, err := l.Commit(s.raw); err != nil {
			return nil, ledger.Code(err)
		}
	}
	return l, api.OK
}

// layBase publishes the first version onto an empty file: its tree, and the record from which the others go on.
func (c cargo) layBase(d *disk.Disk, room int) api.Errno {
	f, e := file.Open(d)
	if e != api.OK {
		return e
	}
	s, e := store.New(f, room)
	if e != api.OK {
		return e
	}
	puts := c.steps[0].changes
	root, e := tree.Update(s, 0, puts)
	if e != api.OK {
		return e
	}
	head, e := index.Add(s, 0, api.Record{Version: c.From, First: c.From, Root: root, Count: len(puts), Sum: c.Sum})
	if e != api.OK {
		return e
	}
	return s.Flush(head)
}
