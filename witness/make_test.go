package witness_test

import (
	"bytes"
	"errors"
	"fmt"
	"slices"
	"sync"
	"testing"

	"ledger/api"
	"ledger/disk"
	"ledger/frame"
	"ledger/index"
	"ledger/ledger"
	"ledger/node"
	"ledger/ship"
	"ledger/witness"
)

// history is a ledger, and the maps of its versions from the first one on.
type history struct {
	*rig
	w, first int
	maps     []entries
}

// story commits batches that put and delete keys which part high and low, and one that changes nothing.
func (h *history) story() *history {
	h.Helper()
	for _, cs := range [][]api.Change{
		{put(keyK, "k"), put(keyB, "b")}, {put(keyM, "m"), put(flipped(keyM, 60), "")}, {put(keyC, "c"), del(keyB)}, {},
		{put(keyZ, text(3, 128)), put(keyK, "kk")}, {del(keyK), del(keyC), put(keyB, "again")}, {put(keyB, "last")},
	} {
		h.commits(cs...)
	}
	return h
}

// commits makes a version of the ledger and of the maps.
func (h *history) commits(cs ...api.Change) int {
	h.Helper()
	h.maps = append(h.maps, h.maps[len(h.maps)-1].behind(cs...))
	return h.commit(cs...)
}

// begun begins a history with version 0.
func begun(t *testing.T, pages, w, room int) *history {
	t.Helper()
	return &history{created(t, pages, w, room), w, 0, []entries{{}}}
}

// newest tells the newest version.
func (h *history) newest() int { return h.first + len(h.maps) - 1 }

// mapOf tells a version's map.
func (h *history) mapOf(v int) entries {
	if v == api.Newest {
		v = h.newest()
	}
	return h.maps[v-h.first]
}

// thinned tells the ledger of the versions from one on alone.
func (h *history) thinned(from int) *history {
	h.Helper()
	stream, err := ship.Export(h.l, from, api.Newest)
	if err != nil {
		h.Fatal(err)
	}
	d, e := disk.New(h.d.Pages())
	if e != api.OK {
		h.Fatal(e)
	}
	l, err := ship.Import(d, 8, stream)
	if err != nil {
		h.Fatal(err)
	}
	return &history{&rig{h.T, d, l}, h.w, from, h.maps[from-h.first:]}
}

// twin opens a ledger over another disk with this image.
func (h *history) twin(image []byte) *history {
	h.Helper()
	d, e := disk.Load(image)
	if e != api.OK {
		h.Fatal(e)
	}
	l, err := ledger.Open(d, 8)
	if err != nil {
		h.Fatal(err)
	}
	return &history{&rig{h.T, d, l}, h.w, h.first, h.maps}
}

// makes asks for a witness, and that it is the map's.
func (h *history) makes(version int, keys []api.Key) []byte {
	h.Helper()
	var l lent
	was, info := h.d.Counts(), fmt.Sprint(h.l.Info())
	raw, err := witness.Make(h.l, version, l.keys(keys))
	if !l.back() {
		h.Errorf("R5: Make has changed what it was handed")
	}
	if want := h.mapOf(version).raw(h.w, keys...); err != nil || !bytes.Equal(raw, want) {
		h.Errorf("P22.7: width %d: Make at %d of %d keys: %s, %v, want %s", h.w, version, len(keys), some(raw), err, some(want))
	}
	if now := h.d.Counts(); now.Writes != was.Writes || now.Syncs != was.Syncs || fmt.Sprint(h.l.Info()) != info {
		h.Errorf("P22.7: Make has written or synced")
	}
	return raw
}

// refusesMake asks for a refusal with its word and its place.
func refusesMake(t *testing.T, l *ledger.Ledger, version int, keys []api.Key, why api.Errno, words string) {
	t.Helper()
	raw, err := witness.Make(l, version, keys)
	if raw != nil || err == nil || ledger.Code(err) != why {
		t.Errorf("P22.7: Make at %d of %d keys: %s, %v, want %v", version, len(keys), some(raw), err, why)
		return
	}
	where := "witness at " + fmt.Sprint(version)
	if version == -1 {
		where = "witness"
	}
	var f *ledger.Fault
	if !errors.As(err, &f) || f.Place != (ledger.Place{Call: "witness", At: version}) || err.Error() != where+": "+words || f.Why != ledger.Wrap("", 0, why).(*ledger.Fault).Why {
		t.Errorf("P22.7: Make at %d: %q, want %s: %s", version, err, where, words)
	}
}

const (
	wordsArg     = "a number that may not be"
	wordsDown    = "the disk has no power"
	wordsStale   = "older than the last crash"
	wordsCorrupt = "the disk is corrupt"
	wordsMany    = "too many changes"
	wordsDup     = "one key twice"
	wordsVersion = "no such version yet"
	wordsGone    = "a version below the first"
)

// makeLists tells lists for the story.
func makeLists() [][]api.Key {
	return [][]api.Key{
		nil, {}, {keyK}, {keyZ}, {keyK, keyC}, {keyC, keyB, keyM, keyK}, {flipped(keyM, 60), flipped(keyM, 255), keyM, keyZ},
		(entries{keyK: "", keyB: "", keyM: "", keyZ: ""}).keysAbout(), manyKeys(64),
	}
}

// P22.7, P22.11: at every version, and at the newest one by its number and as Newest; whatever the room is.
func TestMakeAtEveryVersion(t *testing.T) {
	t.Parallel()
	for _, w := range []int{1, 4, 32} {
		h := begun(t, 1900, w, []int{1, 8, 4096}[w%3]).story()
		old := h.thinned(3)
		for _, keys := range makeLists() {
			for _, h := range []*history{h, old} {
				for v := h.first; v <= h.newest(); v++ {
					h.makes(v, keys)
				}
				h.makes(api.Newest, keys)
				h.makes(h.newest(), shuffled(drawn(w), keys))
			}
		}
	}
}

// P22.7: each refusal ahead of those that come behind it.
func TestMakeRefusals(t *testing.T) {
	h := begun(t, 1900, 4, 8).story()
	old := h.thinned(3)
	many, twice := manyKeys(65), []api.Key{keyK, keyM, keyK}
	numbers := []int{lowest, -77, -2, -1, 0, 1, 2, 3, 7, 8, 9, 1 << 30, highest}
	for _, v := range numbers {
		for _, keys := range [][]api.Key{nil, {keyK}, many, twice} {
			refusesMake(t, nil, v, keys, api.ErrArg, wordsArg)
		}
		for _, h := range []*history{h, old} {
			refusesMake(t, h.l, v, many, api.ErrMany, wordsMany)
			refusesMake(t, h.l, v, slices.Repeat(many, 3), api.ErrMany, wordsMany)
			refusesMake(t, h.l, v, slices.Repeat([]api.Key{keyB}, 65), api.ErrMany, wordsMany)
			refusesMake(t, h.l, v, twice, api.ErrDup, wordsDup)
		}
		for _, keys := range [][]api.Key{nil, {keyK}, {keyB, keyM}, many[:64]} {
			if v < -1 || v > 7 {
				refusesMake(t, h.l, v, keys, api.ErrVersion, wordsVersion)
				refusesMake(t, old.l, v, keys, api.ErrVersion, wordsVersion)
			} else if v >= 0 && v < 3 {
				refusesMake(t, old.l, v, keys, api.ErrGone, wordsGone)
				h.makes(v, keys)
			} else {
				old.makes(v, keys)
			}
		}
	}

	// Without power, and stale: ahead of the list's own.
	h.d.Arm(1)
	if _, err := h.l.Commit(batchOf(put(keyK, "z"))); ledger.Code(err) != api.ErrDown {
		t.Fatal(err)
	}
	lists := [][]api.Key{nil, {keyK}, many, twice}
	for _, v := range numbers {
		for _, keys := range lists {
			refusesMake(t, h.l, v, keys, api.ErrDown, wordsDown)
		}
	}
	h.d.Crash(nil)
	for _, v := range numbers {
		for _, keys := range lists {
			refusesMake(t, h.l, v, keys, api.ErrStale, wordsStale)
		}
	}
	again := h.twin(h.d.Image())
	again.makes(7, []api.Key{keyK, keyB})
	if _, err := ledger.Open(again.d, 8); err != nil {
		t.Fatal(err)
	}
	for _, keys := range lists {
		refusesMake(t, again.l, 99, keys, api.ErrStale, wordsStale)
	}
	// Stale ahead of powerless.
	again.d.Arm(1)
	if e := again.d.Sync(); e != api.ErrDown {
		t.Fatal(e)
	}
	refusesMake(t, again.l, 0, many, api.ErrStale, wordsStale)
}

// P22.7: of a ledger with one spoilt page, opened behind that, Make is refused if it looks at the page, and else makes what it would have made; behind the list's own and the version's refusals.
func TestMakeOverASpoiltPage(t *testing.T) {
	t.Parallel()
	whole := begun(t, 1900, 4, 8).story().thinned(2)
	image := whole.d.Image()
	info, err := whole.l.Info()
	if err != nil {
		t.Fatal(err)
	}
	refused, made := 0, 0
	for page := 2; page < info.Used-1; page++ {
		if page > 12 && page < info.Used-12 && page%61 > 0 {
			continue
		}
		h := whole.twin(image)
		if e := h.d.Flip(page, page*97%2048, 1); e != api.OK {
			t.Fatal(e)
		}
		h = whole.twin(h.d.Image())
		for _, keys := range [][]api.Key{nil, {keyK}, {keyB, keyC}, {keyM, keyZ, keyK}} {
			for v := -1; v <= h.newest(); v++ {
				if v == 0 || v == 1 {
					refusesMake(t, h.l, v, keys, api.ErrGone, wordsGone)
					continue
				}
				_, corrupt := h.l.Root(v)
				for _, k := range keys {
					if _, err := h.l.Prove(k[:], v); err != nil {
						corrupt = err
					}
				}
				if corrupt == nil {
					made++
					h.makes(v, keys)
					continue
				}
				refused++
				refusesMake(t, h.l, v, keys, api.ErrCorrupt, wordsCorrupt)
				refusesMake(t, h.l, v, append(slices.Clone(keys), keyB, keyB), api.ErrDup, wordsDup)
			}
		}
		refusesMake(t, h.l, 99, []api.Key{keyK}, api.ErrVersion, wordsVersion)
	}
	if refused < 20 || made < 20 {
		t.Errorf("P22.7: %d were refused, %d made", refused, made)
	}
}

// relaid tells the image with another load on a page.
func relaid(t *testing.T, image []byte, page int, change func(kind int, load []byte) []byte) []byte {
	t.Helper()
	image = slices.Clone(image)
	kind, load, e := frame.Unpack(page, image[256*page:256*page+256])
	if e != api.OK {
		t.Fatal(e)
	}
	raw, e := frame.Pack(kind, page, change(kind, load))
	if e != api.OK {
		t.Fatal(e)
	}
	copy(image[256*page:], raw)
	return image
}

// P22.7: on a forged disk the proofs do not hold under the root that the record states: ErrCorrupt; without keys there is none that could fail.
func TestMakeOnAForgedDisk(t *testing.T) {
	h := begun(t, 100, 4, 8)
	h.commits(put(keyK, "x"), put(keyB, "y")) // pages 2, 3: the leaves, 4: the branch, 5: the record
	h.commits(put(keyM, "m"))
	image := h.d.Image()
	record := func(change func(r *api.Record)) func(int, []byte) []byte {
		return func(_ int, load []byte) []byte {
			r, e := index.Decode(load)
			if e != api.OK {
				t.Fatal(e)
			}
			change(&r)
			load, e = index.Encode(r)
			if e != api.OK {
				t.Fatal(e)
			}
			return load
		}
	}
	branch := func(change func(n *api.Node)) func(int, []byte) []byte {
		return func(kind int, load []byte) []byte {
			n, e := node.Decode(kind, load)
			if e != api.OK {
				t.Fatal(e)
			}
			change(&n)
			load, e = node.Encode(n)
			if e != api.OK {
				t.Fatal(e)
			}
			return load
		}
	}
	for _, x := range []struct {
		what   string
		page   int
		change func(int, []byte) []byte
	}{
		{"another root", 5, record(func(r *api.Record) { r.Sum[0] ^= 1 })},
		{"a root with a byte beyond the width", 5, record(func(r *api.Record) { r.Sum[31] ^= 1 })},
		{"the empty tree", 5, record(func(r *api.Record) { r.Root, r.Count = 0, 0 })},
		{"another tree", 5, record(func(r *api.Record) { r.Root, r.Count = 2, 1 })},
		{"other digests", 4, branch(func(n *api.Node) { n.LeftSum[1] ^= 1; n.RightSum[1] ^= 1 })},
		{"digests with a byte beyond the width", 4, branch(func(n *api.Node) { n.LeftSum[4] ^= 1; n.RightSum[31] ^= 1 })},
		{"empty subtrees' digests", 4, branch(func(n *api.Node) { n.LeftSum, n.RightSum = emptySum(4, 255), emptySum(4, 255) })},
	} {
		forged := h.twin(relaid(t, image, x.page, x.change))
		for _, keys := range [][]api.Key{{keyK}, {keyB}, {keyK, keyB}, {keyM, keyK}, {keyC, keyB, keyK}, manyKeys(64)} {
			refusesMake(t, forged.l, 1, keys, api.ErrCorrupt, wordsCorrupt)
		}
		refusesMake(t, forged.l, 3, []api.Key{keyK}, api.ErrVersion, wordsVersion)
		refusesMake(t, forged.l, 1, []api.Key{keyK, keyK}, api.ErrDup, wordsDup)
		if raw, err := witness.Make(forged.l, 1, nil); err != nil || len(raw) != 0 {
			t.Errorf("P22.7: %s: no key: %v, %v", x.what, raw, err)
		}
		forged.makes(2, []api.Key{keyM})
		forged.makes(0, []api.Key{keyM, keyK})
	}
}

// P22.7, R7: while others commit, the witness at Newest is that of one version.
func TestMakeWhileOthersCommit(t *testing.T) {
	const rounds = 60
	h := begun(t, 600, 4, 40)
	keys := []api.Key{keyK, keyB, keyZ}
	right := map[string]bool{string(h.mapOf(0).raw(4, keys...)): true}
	var batches [][]byte
	for i := range rounds {
		cs := []api.Change{put(keys[i%3], text(i, 5))}
		h.maps = append(h.maps, h.mapOf(api.Newest).behind(cs...))
		right[string(h.mapOf(api.Newest).raw(4, keys...))] = true
		batches = append(batches, batchOf(cs...))
	}
	var wait sync.WaitGroup
	wait.Go(func() {
		for _, raw := range batches {
			if _, err := h.l.Commit(raw); err != nil {
				t.Error(err)
			}
		}
	})
	for range 3 {
		wait.Go(func() {
			for range rounds {
				raw, err := witness.Make(h.l, api.Newest, keys)
				if err != nil || !right[string(raw)] {
					t.Errorf("P22.7: %v, %v", raw, err)
				}
			}
		})
	}
	wait.Wait()
	h.makes(api.Newest, keys)
}
