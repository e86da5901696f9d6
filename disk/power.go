package disk

import "ledger/api"

const pageBits = 8 * api.PageSize

// Power tells whether there is power.
func (d *Disk) Power() bool { return d.power }

// Arm says at which write or sync from now on power goes.
func (d *Disk) Arm(n int) {
	if d.power {
		d.armed = max(n, 0)
	}
}

// act counts on to the act at which power goes, and refuses that one. There is power when it is called.
func (d *Disk) act() api.Errno {
	if d.armed == 0 {
		return api.OK
	}
	d.armed--
	if d.armed > 0 {
		return api.OK
	}
	d.power = false
	return api.ErrDown
}

// Crash ends the power and begins it again; the fates say which sectors of which open writes reached the disk.
func (d *Disk) Crash(fates []byte) int {
	count := len(d.open)
	for i, w := range d.open {
		if i < len(fates) {
			d.tear(w, fates[i])
		}
	}
	d.dropOpen()
	d.power = true
	d.armed = 0
	d.epoch++
	return count
}

// tear lets those sectors of a write reach the disk that its fate names.
func (d *Disk) tear(w write, fate byte) {
	raw := d.bytesOf(w.page)
	for j := range api.Sectors {
		if fate>>j&1 == 1 {
			from, to := j*api.SectorSize, (j+1)*api.SectorSize
			copy(raw[from:to], w.data[from:to])
		}
	}
}

// Flip spoils bits of a page that is on the disk.
func (d *Disk) Flip(page, bit int, pattern uint32) api.Errno {
	if !d.has(page) {
		return api.ErrPage
	}
	if bit < 0 || bit >= pageBits {
		return api.ErrArg
	}
	raw := d.bytesOf(page)
	for i := range min(32, pageBits-bit) {
		if pattern>>i&1 == 1 {
			b := bit + i
			raw[b/8] ^= 1 << (b % 8)
		}
	}
	return api.OK
}
