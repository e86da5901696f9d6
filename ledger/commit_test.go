package ledger_test

import (
	"bytes"
	"fmt"
	"testing"

	"ledger/api"
	"ledger/file"
	"ledger/index"
	"ledger/ledger"
	"ledger/store"
	"ledger/tree"
)

// P16.8: each batch makes the next version; what it holds is the map ahead of it, changed by the batch.
func TestVersions(t *testing.T) {
	t.Parallel()
	for _, width := range []int{1, 4, 32} {
		r := begun(t, fmt.Sprintf("P16.8: width %d", width), 200, width, 3)
		third := keyOf("01")
		for _, cs := range [][]api.Change{
			{put(keyK, "a")},
			{},
			{put(keyK, "a")},
			{del(keyQ)},
			{put(keyQ, "b"), put(third, "")},
			{put(third, ""), del(high)},
			{put(keyK, "longer"), del(third)},
			{del(keyK)},
			{put(keyQ, string(text(1, 128)))},
			{del(keyQ)},
			{},
			{put(high, "z"), put(low, "0"), put(keyK, "k")},
			{del(high), del(low), del(keyK)},
		} {
			r.preview(raw(cs...))
			r.commits(cs...)
			r.asks(keyK, third, high)
		}
	}
}

// P16.8: a batch's changes count in any order, and as many as a batch may have.
func TestGreatBatches(t *testing.T) {
	t.Parallel()
	r := begun(t, "P16.8", 1200, 4, 40)
	var cs []api.Change
	for i := range 64 {
		cs = append(cs, put(keyOf(fmt.Sprintf("%08b", (i*37)%256)), string(text(i, i*2))))
	}
	r.preview(raw(cs...))
	r.commits(cs...)
	for i := range cs {
		if i%3 == 0 {
			cs[i].Del, cs[i].Val = true, nil
		} else {
			cs[i].Val = text(i+i%2, i*2)
		}
	}
	r.preview(raw(cs...))
	r.commits(cs...)
	r.preview(raw(cs[:63]...))
	r.commits(cs[:63]...)
	r.quiet(func() {
		r.info()
		for _, v := range r.versions() {
			r.ask(v, low, keyK, high)
			r.diff(v, 1)
			r.diff(2, v)
		}
	})
	if _, err := r.l.Commit(append([]byte{65, 0}, bytes.Repeat([]byte{2}, 65*33)...)); ledger.Code(err) != api.ErrMany {
		t.Errorf("P16.8: 65 changes: %v", err)
	}
}

// P16.8, W1: ErrFull comes just where the pages in use and the cost and one are more than the disk has.
func TestJustRoomEnough(t *testing.T) {
	t.Parallel()
	histories := [][][]api.Change{
		{{}},
		{{put(keyK, "a")}},
		{{put(keyK, "a")}, {put(keyQ, "b")}},
		{{put(keyK, "a"), put(keyQ, "b")}, {del(keyK)}},
		{{put(keyK, "a")}, {}},
		{{put(keyK, "a")}, {put(keyK, "a")}},
		{{put(keyK, "a")}, {del(keyK)}},
		{{put(keyK, "a")}, {put(keyM, "b")}},
		{{put(keyK, "a"), put(keyM, "b")}, {put(keyM, "c")}},
		{{put(keyK, "a"), put(keyM, "b"), put(keyQ, "c")}, {del(keyM)}},
	}
	for _, history := range histories {
		used, m := 2, entries{}
		for _, cs := range history {
			used += cost(m, m.behind(cs)) + 1
			m = m.behind(cs)
		}
		for _, pages := range []int{used - 1, used, used + 1} {
			if pages < 3 {
				continue
			}
			r := begun(t, fmt.Sprintf("W1: %d pages of %d", used, pages), pages, 4, 5)
			for i, cs := range history {
				r.preview(raw(cs...))
				if taken := r.commit(raw(cs...)); taken != (pages >= used || i < len(history)-1) {
					r.fails("batch %d: taken is %t", i, taken)
				}
			}
			r.info()
			if pages >= used {
				r.preview(raw())
				r.commit(raw())
				r.info()
			}
			r.quiet(func() { r.ask(-1, keyK, keyQ) })
			r.open(1)
			r.info()
		}
	}
}

// P16.8: the greatest disk is used up to its last page.
func TestGreatestDisk(t *testing.T) {
	r := begun(t, "P16.8", 4096, 2, 4096)
	for i := range 16 {
		k := keyOf(fmt.Sprintf("%04b", i))
		r.commits(put(k, "x"), put(flipped(k, 240), "y"))
		if t.Failed() {
			return
		}
	}
	for r.m.used < 4096 {
		r.commits()
	}
	for _, b := range [][]byte{raw(), raw(del(low)), raw(put(keyK, "k"))} {
		r.preview(b)
		r.commit(b)
	}
	r.quiet(func() {
		r.info()
		r.get(keyK[:], -1)
		r.root(16)
		r.root(17)
	})
	r.open(1)
	r.info()
}

// P16.9: the record is the last page below the new mark, and the head; the pages ahead of it are those that tree.Update stages, and the record says what tree.Sum and tree.Count say.
func TestWhatACommitLays(t *testing.T) {
	r := begun(t, "P16.9", 400, 4, 3)
	third := keyOf("0110")
	for step, cs := range [][]api.Change{
		{put(keyK, "a")}, {put(keyQ, "b"), put(third, "c")}, {}, {del(keyK), put(high, "d")}, {put(third, "c")}, {del(third)}, {del(high)}, {del(keyQ)}, {del(keyQ)},
	} {
		before := r.d.Image()
		twin := loaded(t, before)
		f, e := file.Open(twin)
		if e != api.OK {
			t.Fatal(e)
		}
		s, _ := store.New(f, 100)
		head := s.Super().Head
		root := 0
		if head != 0 {
			root = read(before).newest()
		}
		page, e := tree.Update(s, root, cs)
		sum, _ := tree.Sum(s, page)
		count, _ := tree.Count(s, page)
		added, why := index.Add(s, head, api.Record{Version: 1, Root: page, Count: count, Sum: sum})
		if e != api.OK || why != api.OK || s.Flush(added) != api.OK {
			t.Fatal(e, why)
		}
		r.commits(cs...)
		if !bytes.Equal(r.d.Image(), twin.Image()) {
			r.fails("R8: step %d lays down other bytes", step)
		}
		if x := read(r.d.Image()); x.head != r.m.used-1 || x.record(x.head).Version != r.m.last() {
			r.fails("step %d: the head is %d, used are %d", step, x.head, r.m.used)
		}
	}
}

// P16.8: the record's digest and count are the tree's, though an earlier record of the same root says otherwise (which no commit lays).
func TestForgedRecord(t *testing.T) {
	m := entries{keyK: "a", keyQ: "b"}
	wrong := api.Digest{1, 2, 3, 4, 5, 6}
	for _, forged := range []api.Record{{Count: 2, Sum: wrong}, {Count: 77, Sum: m.sum(4, "")}, {Count: 4096, Sum: wrong}} {
		d := blank(t, 32)
		s := stored(t, d, 4)
		root, _ := tree.Update(s, 0, []api.Change{put(keyK, "a"), put(keyQ, "b")})
		head, e := index.Add(s, 0, api.Record{Version: 1, Root: root, Count: forged.Count, Sum: forged.Sum})
		if e != api.OK || s.Flush(head) != api.OK {
			t.Fatal(e)
		}
		l, err := ledger.Open(d, 2)
		if err != nil {
			t.Fatal(err)
		}
		info, err := l.Info()
		if info.Sum != forged.Sum || info.Keys != forged.Count || err != nil {
			t.Errorf("P16.16: Info tells %+v, %v of the record %+v", info, err, forged)
		}
		for _, b := range [][]byte{raw(), raw(put(keyK, "a")), raw(del(keyM))} {
			if sum, n, err := l.Preview(b); sum != m.sum(4, "") || n != 1 || err != nil {
				t.Errorf("P16.10: Preview = %x, %d, %v", sum, n, err)
			}
		}
		if v, err := l.Commit(raw()); v != 2 || err != nil {
			t.Fatal(v, err)
		}
		for _, l := range []*ledger.Ledger{l, opens(t, loaded(t, d.Image()), 1, api.OK, 1)} {
			info, err = l.Info()
			if info.Sum != m.sum(4, "") || info.Keys != 2 || info.Last != 2 || err != nil {
				t.Errorf("P16.8: behind the Commit Info tells %+v, %v", info, err)
			}
			if sum, err := l.Root(1); sum != forged.Sum || err != nil {
				t.Errorf("P16.12: Root(1) = %x, %v, want %x", sum, err, forged.Sum)
			}
			if sum, err := l.Root(2); sum != m.sum(4, "") || err != nil {
				t.Errorf("P16.12: Root(2) = %x, %v", sum, err)
			}
		}
	}
}

// P16.9: a Commit that is refused, for whatever but the power, has neither written nor synced, and leaves nothing behind: the next one is laid as if it had not come.
func TestRefusedCommitLeavesNothing(t *testing.T) {
	r := begun(t, "P16.9", 20, 4, 2)
	twin := begun(t, "P16.9", 20, 4, 2)
	for _, cs := range [][]api.Change{{put(keyK, "a")}, {put(keyQ, "b")}, {del(keyK)}, {put(keyK, "c")}} {
		for b := range wrongBatches {
			r.commit([]byte(b))
		}
		r.commit(raw(put(keyM, "far"), put(keyK, "near")))
		r.preview(raw(put(keyM, "far"), put(keyK, "near")))
		r.preview(raw(put(keyQ, "other")))
		r.commits(cs...)
		twin.commits(cs...)
		if !bytes.Equal(r.d.Image(), twin.d.Image()) {
			r.fails("the images differ")
		}
	}
	r.asks(keyK, keyQ)
}

// P16.9, P16.10: a Commit that is refused behind its staging, for a record or for the new root's page, leaves nothing staged.
func TestRefusedBehindStaging(t *testing.T) {
	whole := begun(t, "P16.9", 40, 4, 2)
	for _, val := range []string{"a", "b", "c", "d", "e"} {
		whole.commits(put(keyK, val), put(keyQ, val))
	}
	x := read(whole.d.Image())
	looked := x.add()
	if len(looked) != 2 {
		t.Fatal(looked) // version 6 comes behind 5 and skips to 4
	}
	r := whole.spoil(looked[1], 77, 1)
	r.open(2)
	image := r.d.Image()
	for range 3 {
		r.commit(raw(put(keyK, "f")))
		if _, err := r.l.Commit(raw(put(keyK, "f"))); ledger.Code(err) != api.ErrCorrupt {
			r.fails("%v", err)
		}
		r.preview(raw(put(keyK, "f")))
		r.preview(raw())
	}
	if r.d.Flip(looked[1], 77, 1) != api.OK {
		t.Fatal()
	}
	r.m.laid.spoilt = 0
	r.commits(put(keyK, "f"))
	whole.commits(put(keyK, "f"))
	if bytes.Equal(image, r.d.Image()) || !bytes.Equal(whole.d.Image(), r.d.Image()) {
		r.fails("the images differ")
	}
	path := x.path(x.newest(), keyQ)
	r = whole.spoil(path[len(path)-1], 77, 1)
	r.open(1)
	for range 3 {
		r.commit(raw(del(keyK)))
		if _, err := r.l.Commit(raw(del(keyK))); ledger.Code(err) != api.ErrCorrupt {
			r.fails("%v", err)
		}
		r.preview(raw(del(keyK)))
		r.preview(raw(put(keyK, "g")))
	}
	r.commits(put(keyK, "g"))
	r.quiet(func() { r.ask(-1, keyK) })
}

// P16.10: Preview tells what Commit then does, and changes nothing: however many come, in whatever room.
func TestPreview(t *testing.T) {
	t.Parallel()
	for _, room := range []int{1, 2, 4096} {
		r := begun(t, fmt.Sprintf("P16.10: room %d", room), 300, 4, room)
		twin := begun(t, "P16.10", 300, 4, 1)
		batches := [][]api.Change{{put(keyK, "a")}, {put(keyQ, "b")}, {}, {put(keyM, "m")}, {del(keyQ), put(keyK, "k")}, {del(keyM)}, {del(keyK), put(high, "z")}}
		for i, cs := range batches {
			for _, other := range batches {
				r.preview(raw(other...))
			}
			sum, pages, err := r.l.Preview(raw(cs...))
			before, _ := r.l.Info()
			taken := r.commit(raw(cs...))
			after, _ := r.l.Info()
			if taken != (err == nil) || taken && (after.Sum != sum || after.Used-before.Used != pages) {
				r.fails("batch %d: Preview = %x, %d, %v; Info behind it is %+v", i, sum, pages, err, after)
			}
			twin.commit(raw(cs...))
		}
		if !bytes.Equal(r.d.Image(), twin.d.Image()) {
			r.fails("R8: the images differ")
		}
	}
}
