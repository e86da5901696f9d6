package salvage_test

import (
	"bytes"
	"fmt"
	"math/rand/v2"
	"testing"

	"ledger/api"
	"ledger/audit"
)

// forger is a history over which pages are forged.
type forger struct {
	history
	ends  []int
	count int
}

func forgerOf(t *testing.T, h history) *forger { return &forger{h, h.ends(t), 0} }

// forgery asks of an image that is wrong at one page, whose checksum is right: Mend leaves it, and the versions ahead of the page's own stand. Of each fifth it asks all, and that the cuts below a clean one are clean (P23.4): that takes long.
func (f *forger) forgery(t *testing.T, promise string, image []byte, page int) {
	t.Helper()
	heals(t, promise+": P23.5", image, image)
	owner := 1
	for f.ends[owner] < page {
		owner++
	}
	last, want := f.version(owner-1), f.images[owner-1]
	wholes(t, promise+": P23.6", image, min(f.first, last), last, api.OK)
	cuts(t, promise+": P23.7", image, api.Newest, want, api.OK)
	rescues(t, promise+": P23.8", image, want, last, api.OK)
	if f.count++; f.count%5 != 1 {
		return
	}
	ask(t, promise, image)
	x, e := readWhole(image)
	if e != api.OK {
		t.Fatal(promise, e)
	}
	x.falls(t, promise)
}

// falls asks that the cuts are clean up to the greatest one that is, and none behind it.
func (x *reading) falls(t *testing.T, promise string) {
	t.Helper()
	for i := range len(x.r) + 1 {
		r, e := audit.Check(x.cut(i))
		if clean := e == api.OK && len(r.Findings) == 0; clean != (i <= x.i) {
			t.Errorf("%s: P23.4: the cut at %d is clean: %v; the greatest clean one is at %d", promise, i, clean, x.i)
		}
	}
}

// P23.6 to P23.8: pages of another ledger, which stand alone in their places.
func TestPagesOfOtherLedgers(t *testing.T) {
	t.Parallel()
	h := forgerOf(t, made(t, 24, 4, story()...))
	var lists [][]api.Change
	for _, cs := range story() {
		var other []api.Change
		for _, c := range cs {
			if !c.Del {
				c.Val = append(c.Val, "of another ledger"...)
			}
			other = append(other, c)
		}
		lists = append(lists, other)
	}
	for which, others := range []history{made(t, 24, 4, lists...), made(t, 24, 5, story()...), made(t, 24, 4, story()[1:]...), shipped(t, 2, h.history)} {
		y := others.newest()
		mark := min(others.super(t).Mark, h.super(t).Mark)
		for page := 2; page < mark; page++ {
			image := laid(h.newest(), page, y[256*page:256*page+256])
			if bytes.Equal(image, h.newest()) {
				continue
			}
			h.forgery(t, fmt.Sprintf("ledger %d, page %d", which, page), image, page)
		}
		ask(t, "the other's slots", laid(h.newest(), 0, y[:512]))
		ask(t, "the other's pages", laid(y, 0, h.newest()[:512]))
		ask(t, "half of each", laid(h.newest(), mark/2, y[256*mark/2:]))
	}
}

// P23.6 to P23.8: records of a right checksum that do not follow, in the places of other records and of other pages.
func TestRecordsThatDoNotFollow(t *testing.T) {
	t.Parallel()
	h := forgerOf(t, made(t, 24, 4, story()...))
	for _, from := range h.ends[1:] {
		_, other := load(t, h.newest(), from)
		for page := 2; page < 22; page++ {
			if page != from {
				image := laid(h.newest(), page, framed(api.KindRecord, page, other))
				h.forgery(t, fmt.Sprintf("the record of page %d in page %d", from, page), image, page)
			}
		}
	}
}

// P23.6 to P23.8: each number of each record and branch is another one, and the digests.
func TestForgedTrees(t *testing.T) {
	t.Parallel()
	h := forgerOf(t, made(t, 24, 4, story()...))
	x := h.newest()
	for number, page := range h.ends[1:] {
		name := fmt.Sprintf("the record of the number %d", number+1)
		_, was := load(t, x, page)
		for field := range 6 {
			for _, n := range []byte{0, 1, 2, 3, 5, 7, 8, byte(page), was[4*field] + 1} {
				forged := bytes.Clone(was)
				if forged[4*field] = n; n == 1 && field == 1 && number == 0 {
					// That is right: a ledger whose first version is 1.
					image := laid(x, page, framed(api.KindRecord, page, forged))
					wholes(t, name+", First 1", image, 1, 1, api.OK)
					cuts(t, name+", First 1", image, 0, nil, api.ErrGone)
				} else if n != was[4*field] {
					h.forgery(t, fmt.Sprintf("%s, field %d: %d", name, field, n), laid(x, page, framed(api.KindRecord, page, forged)), page)
				}
			}
		}
		h.forgery(t, name+": its digest", withRecord(t, x, page, func(r *api.Record) { r.Sum[0] ^= 1 }), page)
		h.forgery(t, name+": its digest behind the width", withRecord(t, x, page, func(r *api.Record) { r.Sum[31] ^= 1 }), page)
	}
	for _, page := range []int{4, 6, 9, 10, 13, 16, 17} {
		name := fmt.Sprintf("the branch %d", page)
		h.forgery(t, name+": its left count", withNode(t, x, page, func(n *api.Node) { n.LeftCount++ }), page)
		h.forgery(t, name+": its children", withNode(t, x, page, func(n *api.Node) { n.Left, n.Right = n.Right, n.Left }), page)
		h.forgery(t, name+": a digest", withNode(t, x, page, func(n *api.Node) { n.LeftSum[1] ^= 1 }), page)
		h.forgery(t, name+": the other digest", withNode(t, x, page, func(n *api.Node) { n.RightSum[1] ^= 1 }), page)
	}
	for _, page := range []int{2, 3, 5, 8, 15, 20} {
		name := fmt.Sprintf("the leaf %d", page)
		h.forgery(t, name+": its value", withNode(t, x, page, func(n *api.Node) { n.Val = []byte("other") }), page)
		h.forgery(t, name+": its key", withNode(t, x, page, func(n *api.Node) { n.Key[31] ^= 1 }), page)
		h.forgery(t, name+": a branch", laid(x, page, x[256*4:256*5]), page)
	}
}

// P23.6 to P23.8: heads that name no record, an older one, or nothing: the records that count are those below the mark, whatever the head is.
func TestHeads(t *testing.T) {
	t.Parallel()
	h := made(t, 24, 4, story()...)
	x, ends := h.newest(), h.ends(t)
	for mark := 2; mark <= 24; mark++ {
		number := 0
		for number+1 < len(ends) && ends[number+1] < mark {
			number++
		}
		heads := []int{0, mark - 1, 2, 5, ends[number]}
		if mark == 22 {
			heads = []int{0}
			for page := 2; page < mark; page++ {
				heads = append(heads, page)
			}
		}
		for _, head := range heads {
			if head != 0 && (head < 2 || head >= mark) {
				continue
			}
			name := fmt.Sprintf("mark %d, head %d", mark, head)
			image := underHead(t, x, mark, head)
			wholes(t, "P23.6: "+name, image, 0, number, api.OK)
			if head == heads[0] {
				h.travels(t, "P23.7: "+name, image, number)
			}
			cuts(t, "P23.7: "+name, image, number, h.images[number], api.OK)
			rescues(t, "P23.8: "+name, image, h.images[number], number, api.OK)
			mends(t, "P23.5: "+name, turned(image, 8, pageBits+600), image, api.OK, 0, 1)
		}
	}
}

// P23.6 to P23.8: forged pages with bits turned in them and beside them: what is mended is the forged page.
func TestForgedAndSpoilt(t *testing.T) {
	t.Parallel()
	h := made(t, 24, 4, story()...)
	rnd := drawn(40)
	for i := range 60 {
		page := 2 + i%20
		image := withPage(rnd, h.newest(), page)
		var bits []int
		for _, p := range unlike(rnd, 4, 22) {
			bits = append(bits, p*pageBits+rnd.IntN(pageBits))
		}
		bits = append(bits, page*pageBits+rnd.IntN(pageBits))
		ask(t, fmt.Sprintf("round %d", i), turned(image, bits...))
	}
}

// withPage lays some page that stands in its frame into an image.
func withPage(rnd *rand.Rand, image []byte, page int) []byte {
	b := make([]byte, rnd.IntN(247))
	for i := range b {
		b[i] = byte(rnd.IntN(256) >> rnd.IntN(8))
	}
	return laid(image, page, framed(1+rnd.IntN(3), page, b))
}
