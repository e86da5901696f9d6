package salvage_test

import (
	"bytes"
	"encoding/binary"
	"hash/crc32"
	"math/rand/v2"
	"slices"
	"testing"

	"ledger/api"
	"ledger/batch"
	"ledger/disk"
	"ledger/frame"
	"ledger/index"
	"ledger/ledger"
	"ledger/node"
	"ledger/ship"
)

const (
	highest = int(^uint(0) >> 1)
	lowest  = -highest - 1
)

// The bits of a page, and of its first sector.
const (
	pageBits   = 2048
	sectorBits = 512
)

// keyOf tells the key that begins with these bits; all others are 0.
func keyOf(bits string) (k api.Key) {
	for i, b := range bits {
		if b == '1' {
			k[i/8] |= 128 >> (i % 8)
		}
	}
	return k
}

var (
	keyA = keyOf("00")
	keyB = keyOf("01")
	keyC = keyOf("1")
	keyD = keyOf("011")
	keyK = api.Key{}
)

func put(k api.Key, val string) api.Change { return api.Change{Key: k, Val: []byte(val)} }

func del(k api.Key) api.Change { return api.Change{Key: k, Del: true} }

func list(cs ...api.Change) []api.Change { return cs }

// raw tells the bytes of a batch.
func raw(cs ...api.Change) []byte {
	b, e := batch.Build(cs...)
	if e != api.OK {
		panic(e)
	}
	return b
}

func drawn(seed uint64) *rand.Rand { return rand.New(rand.NewPCG(seed, 23)) }

// pick tells one of a list.
func pick[T any](rnd *rand.Rand, list ...T) T { return list[rnd.IntN(len(list))] }

// noise makes n drawn bytes.
func noise(rnd *rand.Rand, n int) []byte {
	b := make([]byte, n)
	for i := range b {
		b[i] = byte(rnd.IntN(256))
	}
	return b
}

// story is the history of most tests here, with these pages:
//
//	1: leaves A 2, B 3, branch 0 4, leaf C 5, branch 6, record 7
//	2: leaf A 8, branch 0 9, branch 10, record 11
//	3: record 12
//	4: branch 13 (left A's leaf 8, right 5), record 14
//	5: leaf D 15, branch 0 16, branch 17, record 18
//	6: record 19 (the empty map)
//	7: leaf C 20, record 21
func story() [][]api.Change {
	return [][]api.Change{
		list(put(keyA, "a"), put(keyB, "b"), put(keyC, "c")),
		list(put(keyA, "aa")),
		nil,
		list(del(keyB)),
		list(put(keyD, "d")),
		list(del(keyA), del(keyC), del(keyD)),
		list(put(keyC, "c")),
	}
}

// history is the images of a ledger behind each of its versions' records, by their numbers; that of the number 0 is an empty ledger's.
type history struct {
	first  int // the version of the record number 1; 0: of a ledger that began empty
	lists  [][]api.Change
	images [][]byte
}

// made makes a history by Create and Commit.
func made(t *testing.T, pages, width int, lists ...[]api.Change) history {
	t.Helper()
	d, l := created(t, pages, width)
	h := history{lists: lists, images: [][]byte{d.Image()}}
	for _, cs := range lists {
		if _, err := l.Commit(raw(cs...)); err != nil {
			t.Fatal(err)
		}
		h.images = append(h.images, d.Image())
	}
	return h
}

// shipped makes the history of the versions from one on: Import of the first alone, then of each later one too.
func shipped(t *testing.T, from int, h history) history {
	t.Helper()
	pages := len(h.images[0]) / 256
	d, _ := created(t, pages, h.super(t).Width)
	x := history{first: from, lists: h.lists[from-1:], images: [][]byte{d.Image()}}
	_, l := opened(t, h.newest())
	for to := from; to <= len(h.lists); to++ {
		stream, err := ship.Export(l, from, to)
		if err != nil {
			t.Fatal(err)
		}
		d := blank(t, pages)
		if _, err := ship.Import(d, 8, stream); err != nil {
			t.Fatal(err)
		}
		x.images = append(x.images, d.Image())
	}
	return x
}

// newest tells the image behind the last version.
func (h history) newest() []byte { return h.images[len(h.images)-1] }

// version tells the version whose record has a number.
func (h history) version(number int) int {
	if number > 0 && h.first > 0 {
		return h.first + number - 1
	}
	return number
}

// super tells the superblock behind the last version.
func (h history) super(t *testing.T) api.Super {
	t.Helper()
	return superOf(t, h.newest())
}

// ends tells the page of each record, by their numbers; 1 of the number 0.
func (h history) ends(t *testing.T) (all []int) {
	t.Helper()
	for _, image := range h.images {
		all = append(all, superOf(t, image).Mark-1)
	}
	return all
}

func superOf(t *testing.T, image []byte) api.Super {
	t.Helper()
	s, e := frame.Choose(image[:256], image[256:512])
	if e != api.OK {
		t.Fatal(e)
	}
	return s
}

func blank(t *testing.T, pages int) *disk.Disk {
	t.Helper()
	d, e := disk.New(pages)
	if e != api.OK {
		t.Fatal(e)
	}
	return d
}

func created(t *testing.T, pages, width int) (*disk.Disk, *ledger.Ledger) {
	t.Helper()
	d := blank(t, pages)
	l, err := ledger.Create(d, width, 8)
	if err != nil {
		t.Fatal(err)
	}
	return d, l
}

// opened opens a ledger over a disk with a copy of an image.
func opened(t *testing.T, image []byte) (*disk.Disk, *ledger.Ledger) {
	t.Helper()
	d, e := disk.Load(image)
	if e != api.OK {
		t.Fatal(e)
	}
	l, err := ledger.Open(d, 4)
	if err != nil {
		t.Fatal(err)
	}
	return d, l
}

// turned turns bits of a copy.
func turned(image []byte, bits ...int) []byte {
	b := bytes.Clone(image)
	for _, i := range bits {
		b[i/8] ^= 1 << (i % 8)
	}
	return b
}

// unlike draws n unlike numbers below a bound.
func unlike(rnd *rand.Rand, n, below int) (all []int) {
	for len(all) < n {
		if i := rnd.IntN(below); !slices.Contains(all, i) {
			all = append(all, i)
		}
	}
	return all
}

// twice tells two bits of the first sector of a page, which no single one heals.
func twice(page int) []int { return []int{page*pageBits + 35, page*pageBits + 300} }

// laid tells an image in whose pages, from one on, stand other bytes.
func laid(image []byte, page int, b []byte) []byte {
	image = bytes.Clone(image)
	copy(image[256*page:], b)
	return image
}

// block is a superblock's page by the table of doc/05-frame.md, valid or not.
func block(s api.Super) []byte {
	b := make([]byte, 256)
	copy(b, "LDG1")
	b[4] = byte(s.Width)
	binary.LittleEndian.PutUint64(b[8:], uint64(s.Generation))
	for i, n := range []int{s.Mark, s.Head, s.Pages} {
		binary.LittleEndian.PutUint32(b[16+4*i:], uint32(n))
	}
	binary.LittleEndian.PutUint32(b[60:], crc32.ChecksumIEEE(b[:60]))
	return b
}

// framed is a page by the table of doc/05-frame.md, right or not.
func framed(kind, page int, load []byte) []byte {
	b := make([]byte, 256)
	b[0], b[1] = byte(kind), byte(len(load))
	binary.LittleEndian.PutUint32(b[2:], uint32(page))
	copy(b[6:252], load)
	binary.LittleEndian.PutUint32(b[252:], crc32.ChecksumIEEE(b[:252]))
	return b
}

// supers tells an image with two other superblocks, whichever slots they go into.
func supers(image []byte, even, odd api.Super) []byte {
	return laid(laid(image, 0, block(even)), 1, block(odd))
}

// underHead tells an image with another mark and head, and an older superblock that they may follow.
func underHead(t *testing.T, image []byte, mark, head int) []byte {
	t.Helper()
	s := superOf(t, image)
	s.Mark, s.Head = mark, head
	old := api.Super{Width: s.Width, Generation: s.Generation + 1, Mark: 2, Pages: s.Pages}
	if s.Generation > 0 {
		old.Generation = s.Generation - 1
	}
	if s.Generation%2 == 0 {
		return supers(image, s, old)
	}
	return supers(image, old, s)
}

// load tells a page's kind and load.
func load(t *testing.T, image []byte, page int) (int, []byte) {
	t.Helper()
	kind, load, e := frame.Unpack(page, image[256*page:256*page+256])
	if e != api.OK {
		t.Fatal(page, e)
	}
	return kind, load
}

// withRecord changes the record of a page; what comes out is right by its form.
func withRecord(t *testing.T, image []byte, page int, change func(r *api.Record)) []byte {
	t.Helper()
	_, was := load(t, image, page)
	r, e := index.Decode(was)
	if e != api.OK {
		t.Fatal(page, e)
	}
	change(&r)
	is, e := index.Encode(r)
	if e != api.OK {
		t.Fatal(page, r, e)
	}
	return laid(image, page, framed(api.KindRecord, page, is))
}

// withNode changes the node of a page; what comes out is right by its form.
func withNode(t *testing.T, image []byte, page int, change func(n *api.Node)) []byte {
	t.Helper()
	n, e := node.Decode(load(t, image, page))
	if e != api.OK {
		t.Fatal(page, e)
	}
	change(&n)
	is, e := node.Encode(n)
	if e != api.OK {
		t.Fatal(page, n, e)
	}
	return laid(image, page, framed(n.Kind, page, is))
}

// seal lays a checksum behind a text, by the library's CRC-32.
func seal(b []byte) []byte {
	return binary.LittleEndian.AppendUint32(bytes.Clone(b), crc32.ChecksumIEEE(b))
}

// sealedSector lays the right checksum over a slot's first sector.
func sealedSector(b []byte) []byte { return laid(b, 0, seal(b[:60])) }

// histories are ledgers that began empty and such that were taken in, of several widths.
func histories(t *testing.T) []history {
	t.Helper()
	one, four := made(t, 24, 1, story()...), made(t, 24, 4, story()...)
	var puts [][]api.Change
	for _, v := range []string{"a", "b", "c", "d", "e"} {
		puts = append(puts, list(put(keyK, v)))
	}
	return []history{
		one, four, made(t, 33, 32, append(story(), nil, list(put(keyA, "more"), put(keyB, "and more")))...), made(t, 16, 4, puts...),
		shipped(t, 1, four), shipped(t, 3, four), shipped(t, 5, one), shipped(t, 6, four),
	}
}
