package audit_test

import (
	"slices"
	"testing"

	"ledger/api"
	"ledger/frame"
	"ledger/ledger"
)

// Example 1.
func TestExampleNoImage(t *testing.T) {
	refusesAll(t, "example 1: nil", nil, api.ErrPages)
	refusesAll(t, "example 1: 700 bytes", make([]byte, 700), api.ErrSize)
	refusesAll(t, "example 1: zeros", make([]byte, 16*256), api.ErrBlank)
}

// Example 2.
func TestExampleCreate(t *testing.T) {
	image := committed(t, 16, 4)
	checks(t, "example 2", image, api.Report{Width: 4, Pages: 16, Mark: 2})
	pages(t, "example 2", image, 0, api.OK)
	pages(t, "example 2", image, -1, api.OK)
	pages(t, "example 2", image, 1, api.ErrVersion)
	owner(t, "example 2", image, 2, 0, api.ErrPage)
	garbage(t, "example 2", image, 0, api.OK)
}

// Examples 3, 4 and 5.
func TestExampleCommits(t *testing.T) {
	one := committed(t, 16, 4, list(put(keyK, "a")))
	checks(t, "example 3", one, api.Report{Width: 4, Pages: 16, Mark: 4, Head: 3, Last: 1, Leaves: 1, Records: 1})
	pages(t, "example 3", one, 1, api.OK, 2, 3)
	owner(t, "example 3", one, 2, 1, api.OK)
	owner(t, "example 3", one, 3, 1, api.OK)
	owner(t, "example 3", one, 4, 0, api.ErrPage)

	two := committed(t, 16, 4, list(put(keyK, "a")), list(put(keyK, "b")))
	checks(t, "example 4", two, api.Report{Width: 4, Pages: 16, Mark: 6, Head: 5, Last: 2, Leaves: 2, Records: 2})
	pages(t, "example 4", two, 2, api.OK, 4, 5)
	garbage(t, "example 4", two, 2, api.OK, 2, 3)
	garbage(t, "example 4", two, 1, api.OK)
	garbage(t, "example 4", two, 3, api.ErrVersion)

	same := committed(t, 16, 4, list(put(keyK, "a")), nil)
	checks(t, "example 5", same, api.Report{Width: 4, Pages: 16, Mark: 5, Head: 4, Last: 2, Leaves: 1, Records: 2})
	pages(t, "example 5", same, 2, api.OK, 2, 4)
	garbage(t, "example 5", same, 2, api.OK, 3)
}

// Example 6.
func TestExampleSpoiltPages(t *testing.T) {
	image := committed(t, 16, 4, list(put(keyK, "a")), list(put(keyK, "b")))
	image[2*256+99] ^= 16
	report := api.Report{Width: 4, Pages: 16, Mark: 6, Head: 5, Last: 2, Leaves: 1, Records: 2, Findings: []api.Finding{find(2, api.ErrSum)}}
	checks(t, "example 6", image, report)
	refuses(t, "example 6", image, api.ErrCorrupt)
	image[4*256] ^= 1
	report.Leaves, report.Findings = 0, append(report.Findings, find(4, api.ErrSum))
	checks(t, "example 6", image, report)
	refuses(t, "example 6", image, api.ErrCorrupt)
}

// Example 7.
func TestExampleForgedRecords(t *testing.T) {
	image := committed(t, 16, 4, list(put(keyK, "a")), list(put(keyK, "b")))
	f := forged(t, image)
	f.record(5, func(r *api.Record) { r.Sum[3] ^= 1 })
	finds(t, "example 7: another Sum", f.image, find(5, api.ErrDigest))
	f = forged(t, image)
	f.record(5, func(r *api.Record) { r.Root = 2 })
	finds(t, "example 7: Root 2", f.image, find(5, api.ErrDigest))
	f.record(5, func(r *api.Record) { r.Sum = sum(keyK, "a", 256) })
	finds(t, "example 7: Root 2 with its Sum", f.image, find(4, api.ErrOrder))
}

// Example 8.
func TestExampleBehindTheRecord(t *testing.T) {
	image := committed(t, 16, 4, list(put(keyK, "a")))
	f := forged(t, image)
	f.layLeaf(4, last, "")
	b, e := frame.PackSuper(api.Super{Width: 4, Generation: 3, Mark: 5, Head: 3, Pages: 16})
	if e != api.OK {
		t.Fatal(e)
	}
	copy(f.image[256:], b)
	finds(t, "example 8: mark 5", f.image, find(4, api.ErrOrder))
	f = forged(t, image)
	b, e = frame.PackSuper(api.Super{Width: 4, Generation: 3, Mark: 4, Head: 0, Pages: 16})
	if e != api.OK {
		t.Fatal(e)
	}
	copy(f.image[256:], b)
	finds(t, "example 8: head 0", f.image, find(3, api.ErrChain))
}

// Example 9.
func TestExampleBytesBesides(t *testing.T) {
	image := committed(t, 16, 4, list(put(keyK, "a")), list(put(keyK, "b")))
	image[256+100] = 7
	finds(t, "example 9: page 1", image, find(1, api.ErrFrame))
	image[256+100] = 0
	copy(image[12*256:13*256], text(9, 256))
	finds(t, "example 9: page 12", image)
}

// Example 10.
func TestExampleLeftChildFirst(t *testing.T) {
	image := committed(t, 16, 4, list(put(keyA, "a"), put(keyC, "c")))
	f := forged(t, image)
	f.layLeaf(2, keyC, "c")
	f.layLeaf(3, keyA, "a")
	f.node(4, func(n *api.Node) { n.Left, n.Right = 3, 2 })
	finds(t, "example 10", f.image, find(3, api.ErrOrder))
}

// The document's first page: its examples 1 to 5, 9 and 10, as an audit tells them.
func TestExamplesOfTheWhole(t *testing.T) {
	k := api.Key(slices.Repeat([]byte{7}, 32))
	q := k
	q[0] = 135
	lists := [][]api.Change{list(put(k, "a")), list(put(q, "bc")), list(del(k))}
	d, l := created(t, 16, 4)
	checks(t, "W8: example 1", d.Image(), api.Report{Width: 4, Pages: 16, Mark: 2})
	for i, want := range []api.Report{
		{Mark: 4, Head: 3, Leaves: 1},
		{Mark: 7, Head: 6, Leaves: 2, Branches: 1},
		{Mark: 8, Head: 7, Leaves: 2, Branches: 1},
	} {
		if _, err := l.Commit(raw(lists[i]...)); err != nil {
			t.Fatal(err)
		}
		want.Width, want.Pages, want.Last, want.Records = 4, 16, i+1, i+1
		checks(t, "W8: examples 2 to 5", d.Image(), want)
	}
	image := d.Image()
	pages(t, "W8", image, 1, api.OK, 2, 3)
	pages(t, "W8", image, 2, api.OK, 2, 4, 5, 6)
	pages(t, "W8", image, 3, api.OK, 4, 7)
	garbage(t, "W8", image, 3, api.OK, 2, 3, 5, 6)
	garbage(t, "W8", image, 2, api.OK, 3)
	d.Arm(4)
	l.Commit(raw(put(k, "z")))
	d.Crash([]byte{15, 15, 15})
	checks(t, "W8: example 9", d.Image(), api.Report{Width: 4, Pages: 16, Mark: 8, Head: 7, Last: 3, Leaves: 2, Branches: 1, Records: 3})
	l, err := ledger.Open(d, 8)
	if err != nil {
		t.Fatal(err)
	}
	d.Arm(5)
	l.Commit(raw(put(k, "z")))
	d.Crash([]byte{1})
	checks(t, "W8: example 10", d.Image(), api.Report{Width: 4, Pages: 16, Mark: 11, Head: 10, Last: 4, Leaves: 3, Branches: 2, Records: 4})
}
