package file

import (
	"ledger/api"
	"ledger/disk"
	"ledger/frame"
)

// step is one act of several that must reach the disk in their order.
type step func() api.Errno

// inTurn takes the steps one after the other until one answers an error.
func inTurn(steps []step) api.Errno {
	for _, take := range steps {
		if e := take(); e != api.OK {
			return e
		}
	}
	return api.OK
}

// laying is the step that writes a superblock to its slot.
func laying(d *disk.Disk, s api.Super) step {
	return func() api.Errno {
		raw, e := frame.PackSuper(s)
		if e != api.OK {
			return e
		}
		return d.Write(s.Generation%slots, raw)
	}
}

// Format lays an empty page file onto a blank disk.
func Format(d *disk.Disk, width int) api.Errno {
	if d == nil {
		return api.ErrArg
	}
	if !d.Power() {
		return api.ErrDown
	}
	if width < 1 || width > api.MaxWidth {
		return api.ErrArg
	}
	if _, e := choose(d); e != api.ErrBlank {
		return api.ErrTaken
	}
	zeroth := api.Super{Width: width, Mark: slots, Pages: d.Pages()}
	first := zeroth
	first.Generation = 1
	// The sync between the two keeps slot 1 empty until slot 0 is sure: so a Format that power ends leaves a blank disk.
	return inTurn([]step{laying(d, zeroth), d.Sync, laying(d, first), d.Sync})
}

// Publish makes all that was appended last, with a new head.
func (f *File) Publish(head int) api.Errno {
	if e := f.Live(); e != api.OK {
		return e
	}
	if head != 0 && !f.has(head) {
		return api.ErrPage
	}
	if f.super.Generation == api.MaxGeneration {
		return api.ErrFull
	}
	next := f.super
	next.Generation++
	next.Mark = f.next
	next.Head = head
	// The first sync makes the pages sure ahead of the superblock that speaks of them.
	return inTurn([]step{f.Sync, laying(f.Disk, next), f.Sync, func() api.Errno {
		f.super = next
		return api.OK
	}})
}
