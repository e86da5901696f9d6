package salvage

import (
	"sync"

	"ledger/api"
	"ledger/crc"
	"ledger/frame"
)

// sumSize is how many bytes a checksum takes.
const sumSize = 4

// healer mends the blocks of one image: what it has worked out for one of them holds for all of that length.
type healer struct {
	sector, page block
}

// block is what is known of all texts of one length with their checksum behind them.
type block struct {
	summed int // how many bytes stand ahead of the checksum
	once   sync.Once
	bits   map[uint32]int // which one was turned, by how far the checksum is then from the right one
}

func newHealer() *healer {
	h := &healer{}
	h.sector.summed = api.SectorSize - sumSize
	h.page.summed = api.PageSize - sumSize
	return h
}

// mendSlots mends both slots of an image, and clears what lies behind a superblock.
func (h *healer) mendSlots(image []byte) {
	for slot := range slots {
		raw := rawPage(image, slot)
		stands := func() bool {
			_, e := frame.UnpackSuper(raw)
			return e == api.OK
		}
		if h.sector.mend(raw, stands) {
			clear(raw[api.SectorSize:])
		}
	}
}

// mendPages mends the used pages of an image.
func (h *healer) mendPages(image []byte, mark int) {
	for page := slots; page < mark; page++ {
		raw := rawPage(image, page)
		h.page.mend(raw, func() bool {
			_, _, e := frame.Unpack(page, raw)
			return e == api.OK
		})
	}
}

// mend turns the bit with which a block stands, if it does not and there is one; it tells whether the block stands then.
func (b *block) mend(raw []byte, stands func() bool) bool {
	if stands() {
		return true
	}
	bit, found := b.spoilt(raw)
	if !found {
		return false
	}
	turn(raw, bit)
	if stands() {
		return true
	}
	// The checksum is right with that bit, and with no other one; but what it seals is no page and no superblock.
	turn(raw, bit)
	return false
}

// spoilt tells the one bit without whose turning the checksum would be right, if there is one.
func (b *block) spoilt(raw []byte) (int, bool) {
	b.once.Do(func() { b.bits = differences(b.summed) })
	bit, found := b.bits[crc.Sum(raw[:b.summed])^stated(raw[b.summed:])]
	return bit, found
}

// stated tells the checksum that stands at the beginning of raw.
func stated(raw []byte) uint32 {
	return uint32(raw[0]) | uint32(raw[1])<<8 | uint32(raw[2])<<16 | uint32(raw[3])<<24
}

// turn turns one bit.
func turn(raw []byte, bit int) {
	raw[bit/8] ^= 1 << (bit % 8)
}

// differences tells for each bit of a text of so many bytes, and of the checksum behind it, what turning it makes of the difference between that and the right one. It hangs on the place alone, not on what the text says.
func differences(summed int) map[uint32]int {
	bits := make(map[uint32]int, 8*(summed+sumSize))
	for bit := range 8 * sumSize {
		bits[1<<bit] = 8*summed + bit
	}
	zero := []byte{0}
	for bit := range 8 {
		d := crc.Sum([]byte{1 << bit}) ^ crc.Sum(zero)
		// The last byte first: ahead of it each place has one byte more behind it.
		for at := summed - 1; at >= 0; at-- {
			bits[d] = 8*at + bit
			d = crc.Update(d, zero) ^ crc.Update(0, zero)
		}
	}
	return bits
}
