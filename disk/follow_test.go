package disk_test

import (
	"bytes"
	"math/rand"
	"testing"

	"ledger/api"
	"ledger/disk"
)

// plain is the chapter's disk told as plainly as can be; the disk is held against it.
type plain struct {
	synced [][]byte
	writes []plainWrite
	down   bool
	armed  int
	epoch  int
	counts api.Counts
}

type plainWrite struct {
	page int
	data []byte
}

func makePlain(pages int) *plain {
	m := &plain{}
	for range pages {
		m.synced = append(m.synced, p(0))
	}
	return m
}

func (m *plain) image() []byte { return bytes.Join(m.synced, nil) }

func (m *plain) newest(page int) []byte {
	for i := len(m.writes) - 1; i >= 0; i-- {
		if m.writes[i].page == page {
			return m.writes[i].data
		}
	}
	return m.synced[page]
}

func (m *plain) read(page int) ([]byte, api.Errno) {
	switch {
	case m.down:
		return nil, api.ErrDown
	case page < 0 || page >= len(m.synced):
		return nil, api.ErrPage
	}
	m.counts.Reads++
	return m.newest(page), api.OK
}

// goes tells whether this act is the one at which power goes.
func (m *plain) goes() bool {
	if m.armed == 0 {
		return false
	}
	m.armed--
	m.down = m.armed == 0
	return m.down
}

func (m *plain) write(page int, data []byte) api.Errno {
	switch {
	case m.down:
		return api.ErrDown
	case page < 0 || page >= len(m.synced):
		return api.ErrPage
	case len(data) != 256:
		return api.ErrSize
	}
	m.writes = append(m.writes, plainWrite{page, bytes.Clone(data)})
	m.counts.Writes++
	if m.goes() {
		return api.ErrDown
	}
	return api.OK
}

func (m *plain) sync() api.Errno {
	if m.down || m.goes() {
		return api.ErrDown
	}
	for _, w := range m.writes {
		m.synced[w.page] = bytes.Clone(w.data)
	}
	m.writes = nil
	m.counts.Syncs++
	return api.OK
}

func (m *plain) arm(n int) {
	if !m.down && n >= 1 {
		m.armed = n
	} else if !m.down {
		m.armed = 0
	}
}

func (m *plain) crash(fates []byte) int {
	n := len(m.writes)
	for i, w := range m.writes {
		for at := range 256 {
			if i < len(fates) && fates[i]&(1<<(at/64)) != 0 {
				m.synced[w.page][at] = w.data[at]
			}
		}
	}
	m.writes, m.down, m.armed = nil, false, 0
	m.epoch++
	return n
}

func (m *plain) flip(page, bit int, pattern uint32) api.Errno {
	switch {
	case page < 0 || page >= len(m.synced):
		return api.ErrPage
	case bit < 0 || bit >= 2048:
		return api.ErrArg
	}
	m.synced[page] = flipped(m.synced[page], 0, bit, pattern)
	return api.OK
}

// step lets one call, of random kind and arguments, come to both; it tells the first answer that is another one.
func step(r *rand.Rand, d *disk.Disk, m *plain) string {
	page := r.Intn(len(m.synced)+2) - 1
	switch r.Intn(14) {
	case 0, 1, 2, 3:
		data := make([]byte, 256)
		if r.Intn(10) == 0 {
			data = make([]byte, 255+r.Intn(3))
		}
		r.Read(data)
		if d.Write(page, data) != m.write(page, data) {
			return "Write"
		}
	case 4, 5, 6:
		got, e := d.Read(page)
		want, f := m.read(page)
		if e != f || !bytes.Equal(got, want) || (got == nil) != (want == nil) {
			return "Read"
		}
	case 7, 8:
		if d.Sync() != m.sync() {
			return "Sync"
		}
	case 9:
		n := r.Intn(12) - 2
		d.Arm(n)
		m.arm(n)
	case 10, 11:
		fates := make([]byte, r.Intn(len(m.writes)+3))
		r.Read(fates)
		if d.Crash(fates) != m.crash(fates) {
			return "Crash"
		}
	case 12:
		bit, pattern := r.Intn(2060)-5, r.Uint32()
		if d.Flip(page, bit, pattern) != m.flip(page, bit, pattern) {
			return "Flip"
		}
	case 13:
		m.epoch++
		if d.Claim() != m.epoch {
			return "Claim"
		}
	}
	return differs(d, m)
}

func differs(d *disk.Disk, m *plain) string {
	counts := m.counts
	counts.Open = len(m.writes)
	switch {
	case d.Counts() != counts:
		return "Counts"
	case d.Epoch() != m.epoch:
		return "Epoch"
	case d.Power() == m.down:
		return "Power"
	case d.Pages() != len(m.synced):
		return "Pages"
	case !bytes.Equal(d.Image(), m.image()):
		return "Image"
	}
	return ""
}

// P4.4 to P4.14, whatever comes behind whatever.
func TestAgainstThePlainDisk(t *testing.T) {
	for seed := range int64(60) {
		r := rand.New(rand.NewSource(seed))
		pages := 3 + r.Intn(4)
		d, m := fresh(t, pages), makePlain(pages)
		for i := range 500 {
			if call := step(r, d, m); call != "" {
				t.Fatalf("seed %d, call %d: %s answers otherwise", seed, i, call)
			}
		}
	}
}

// busy tells a disk with synced pages and with open writes, several of one page; and the writes.
func busy(t *testing.T, r *rand.Rand) (*disk.Disk, []plainWrite) {
	t.Helper()
	image := make([]byte, 4*256)
	r.Read(image)
	d := loaded(t, image)
	var writes []plainWrite
	for range r.Intn(9) {
		w := plainWrite{r.Intn(4), make([]byte, 256)}
		r.Read(w.data)
		wantErr(t, "Write", d.Write(w.page, w.data), api.OK)
		writes = append(writes, w)
	}
	return d, writes
}

// allPages tells what all pages read as, one behind the other.
func allPages(t *testing.T, d *disk.Disk) []byte {
	t.Helper()
	var all []byte
	for page := range d.Pages() {
		b, e := d.Read(page)
		wantErr(t, "Read", e, api.OK)
		all = append(all, b...)
	}
	return all
}

// P4.15
func TestCrashLeavesWholeSectors(t *testing.T) {
	r := rand.New(rand.NewSource(4))
	for range 200 {
		d, writes := busy(t, r)
		ahead := d.Image()
		fates := make([]byte, r.Intn(len(writes)+2))
		r.Read(fates)
		wantCrash(t, d, len(writes), fates...)
		behind := d.Image()
		for at := 0; at < len(behind); at += 64 {
			sector := behind[at : at+64]
			known := bytes.Equal(sector, ahead[at:at+64])
			for _, w := range writes {
				known = known || w.page == at/256 && bytes.Equal(sector, w.data[at%256:at%256+64])
			}
			if !known {
				t.Errorf("the sector at %d is neither as it was synced nor as it was written", at)
			}
		}
	}
}

// P4.15
func TestCrashWithAllFatesAndNone(t *testing.T) {
	r := rand.New(rand.NewSource(5))
	for range 100 {
		d, writes := busy(t, r)
		ahead := allPages(t, d)
		wantCrash(t, d, len(writes), bytes.Repeat([]byte{15}, len(writes))...)
		if !bytes.Equal(allPages(t, d), ahead) {
			t.Errorf("with fates of 15 the disk reads otherwise behind the crash")
		}
		d, writes = busy(t, r)
		image := d.Image()
		wantCrash(t, d, len(writes))
		if !bytes.Equal(allPages(t, d), image) || !bytes.Equal(d.Image(), image) {
			t.Errorf("with no fates the disk is not as it was synced last")
		}
	}
}

// P4.16
func TestWhatIsSyncedStays(t *testing.T) {
	r := rand.New(rand.NewSource(6))
	for range 100 {
		d, _ := busy(t, r)
		wantErr(t, "Sync", d.Sync(), api.OK)
		kept := allPages(t, d)
		wantImage(t, d, kept)
		d.Write(0, p(1))
		wantImage(t, d, kept)
		d.Crash(nil)
		wantImage(t, d, kept)
		d.Claim()
		d.Write(1, p(2))
		d.Crash([]byte{4})
		copy(kept[256+128:256+192], p(2))
		wantImage(t, d, kept)
		d.Arm(2)
		d.Write(2, p(3))
		d.Sync()
		wantImage(t, d, kept)
		d.Flip(3, 100, 7)
		kept = flipped(kept, 3, 100, 7)
		wantImage(t, d, kept)
		d.Crash([]byte{0, 15})
		wantImage(t, d, kept)
		wantErr(t, "Sync", d.Sync(), api.OK)
		wantImage(t, d, kept)
		wantErr(t, "Write", d.Write(2, p(5)), api.OK)
		wantErr(t, "Sync", d.Sync(), api.OK)
		copy(kept[512:768], p(5))
		wantImage(t, d, kept)
	}
}

// P4.17
func TestLoadOfImage(t *testing.T) {
	r := rand.New(rand.NewSource(7))
	for range 100 {
		d, writes := busy(t, r)
		twin := loaded(t, d.Image())
		wantCounts(t, twin, 0, 0, 0, 0)
		ahead := allPages(t, twin)
		wantCrash(t, d, len(writes))
		if twin.Pages() != d.Pages() || !bytes.Equal(ahead, allPages(t, d)) {
			t.Errorf("a disk made of an image reads otherwise")
		}
		wantImage(t, twin, d.Image())
	}
}
