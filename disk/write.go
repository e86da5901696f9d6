package disk

import (
	"slices"

	"ledger/api"
)

// Read tells a page's bytes as they were written last.
func (d *Disk) Read(page int) ([]byte, api.Errno) {
	if !d.power {
		return nil, api.ErrDown
	}
	if !d.has(page) {
		return nil, api.ErrPage
	}
	d.counts.Reads++
	if place, ok := d.newest[page]; ok {
		return slices.Clone(d.open[place].data[:]), api.OK
	}
	return slices.Clone(d.bytesOf(page)), api.OK
}

// Write opens a write.
func (d *Disk) Write(page int, data []byte) api.Errno {
	if !d.power {
		return api.ErrDown
	}
	if !d.has(page) {
		return api.ErrPage
	}
	if len(data) != api.PageSize {
		return api.ErrSize
	}
	w := write{page: page}
	copy(w.data[:], data)
	d.newest[page] = len(d.open)
	d.open = append(d.open, w)
	d.counts.Open = len(d.open)
	d.counts.Writes++
	return d.act()
}

// Sync closes all open writes: they are on the disk.
func (d *Disk) Sync() api.Errno {
	if !d.power {
		return api.ErrDown
	}
	if e := d.act(); e != api.OK {
		return e
	}
	for _, w := range d.open {
		copy(d.bytesOf(w.page), w.data[:])
	}
	d.dropOpen()
	d.counts.Syncs++
	return api.OK
}

// dropOpen leaves no write open; what of them is to be on the disk lies there already.
func (d *Disk) dropOpen() {
	d.open = nil
	clear(d.newest)
	d.counts.Open = 0
}
