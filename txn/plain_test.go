package txn_test

import (
	"fmt"
	"maps"
	"slices"
	"strings"

	"ledger/api"
)

// What follows reads the chapter word for word, by plain maps and lists: its shape is not the program's.

// entries is a map as the document means it.
type entries map[api.Key]string

// behind tells the map that a list of changes leaves, one behind the other.
func (m entries) behind(cs []api.Change) entries {
	behind := maps.Clone(m)
	for _, c := range cs {
		if c.Del {
			delete(behind, c.Key)
		} else {
			behind[c.Key] = string(c.Val)
		}
	}
	return behind
}

// rising tells the keys in their order.
func (m entries) rising() []api.Key {
	return slices.SortedFunc(maps.Keys(m), func(a, b api.Key) int { return strings.Compare(string(a[:]), string(b[:])) })
}

// between tells the entries from lo to hi, keys rising.
func (m entries) between(lo, hi api.Key) (list []api.Entry) {
	for _, k := range m.rising() {
		if string(lo[:]) <= string(k[:]) && string(k[:]) <= string(hi[:]) {
			list = append(list, api.Entry{Key: k, Val: []byte(m[k])})
		}
	}
	return list
}

// under tells the part of the map whose keys have a bit as it is asked for.
func (m entries) under(bit, value int) entries {
	part := entries{}
	for k, val := range m {
		if int(k[bit/8]>>(7-bit%8))&1 == value {
			part[k] = val
		}
	}
	return part
}

// cost tells how many pages a commit stages that leads from one map to another, its record left aside ('How a version lies on the disk').
func cost(from, to entries) (pages int) {
	for k, val := range to {
		if old, has := from[k]; !has || old != val {
			pages++
		}
	}
	return pages + branches(from, to, 0)
}

// branches tells how many rows there are from one of so many bits on under which the later map has two keys or more and both differ.
func branches(from, to entries, bit int) int {
	if bit == 256 || len(to) < 2 || maps.Equal(from, to) {
		return 0
	}
	return 1 + branches(from.under(bit, 0), to.under(bit, 0), bit+1) + branches(from.under(bit, 1), to.under(bit, 1), bit+1)
}

// world is what a ledger is to be: plain maps, one a version.
type world struct {
	pages, used int
	maps        []entries
	dead        api.Errno // what each call is refused with
}

func (w *world) last() int { return len(w.maps) - 1 }

func (w *world) newest() entries { return w.maps[w.last()] }

// price tells how many pages a batch would use, its record's among them.
func (w *world) price(cs []api.Change) int { return cost(w.newest(), w.newest().behind(cs)) + 1 }

// commit makes the next version.
func (w *world) commit(cs []api.Change) {
	w.used += w.price(cs)
	w.maps = append(w.maps, w.newest().behind(cs))
}

// twin tells a world that goes its own way from here.
func (w *world) twin() *world {
	other := *w
	other.maps = slices.Clone(w.maps)
	return &other
}

// query is one thing that was asked: a span, or a key as a span of its own.
type query struct{ lo, hi api.Key }

// deal is an open transaction: all its writes, as they came, and what it asked.
type deal struct {
	version int
	writes  []api.Change
	asked   []query
}

// wrote tells whether a key was written.
func (d *deal) wrote(k api.Key) bool {
	return slices.ContainsFunc(d.writes, func(c api.Change) bool { return c.Key == k })
}

// book is what a Manager is to be.
type book struct {
	w     *world
	none  bool // it was made of no ledger
	deals map[int]*deal
	given int
}

func newBook(w *world) *book { return &book{w: w, deals: map[int]*deal{}} }

// firstOf tells which of several refusals is the one: the first that is not OK.
func firstOf(refusals ...api.Errno) api.Errno {
	for _, e := range refusals {
		if e != api.OK {
			return e
		}
	}
	return api.OK
}

// refuses tells an error where something holds.
func refuses(holds bool, e api.Errno) api.Errno {
	if holds {
		return e
	}
	return api.OK
}

// dead tells why each call is refused.
func (b *book) dead() api.Errno { return firstOf(refuses(b.none, api.ErrArg), b.w.dead) }

// missing tells that there is no open transaction of a number.
func (b *book) missing(id int) api.Errno { return refuses(b.deals[id] == nil, api.ErrTxn) }

// open tells the open numbers, rising (P18.9).
func (b *book) open() []int { return slices.Sorted(maps.Keys(b.deals)) }

// begin is P18.3.
func (b *book) begin() (int, api.Errno) {
	if e := firstOf(b.dead(), refuses(len(b.deals) == 32, api.ErrMany)); e != api.OK {
		return 0, e
	}
	b.given++
	b.deals[b.given] = &deal{version: b.w.last()}
	return b.given, api.OK
}

// sees tells the map that a transaction sees (P18.10).
func (b *book) sees(d *deal) entries { return b.w.maps[d.version].behind(d.writes) }

// read is P18.4.
func (b *book) read(id int, key []byte) (api.Answer, api.Errno) {
	if e := firstOf(b.dead(), refuses(len(key) != 32, api.ErrKey), b.missing(id)); e != api.OK {
		return api.Answer{}, e
	}
	d, k := b.deals[id], api.Key(key)
	if !d.wrote(k) {
		d.asked = append(d.asked, query{k, k})
	}
	val, found := b.sees(d)[k]
	return api.Answer{Found: found, Val: []byte(val)}, api.OK
}

// between is P18.5.
func (b *book) between(id int, lo, hi []byte) ([]api.Entry, api.Errno) {
	wrong := firstOf(refuses(len(lo) != 32 || len(hi) != 32, api.ErrKey), refuses(string(lo) > string(hi), api.ErrRange))
	if e := firstOf(b.dead(), wrong, b.missing(id)); e != api.OK {
		return nil, e
	}
	d := b.deals[id]
	d.asked = append(d.asked, query{api.Key(lo), api.Key(hi)})
	return b.sees(d).between(api.Key(lo), api.Key(hi)), api.OK
}

// write is P18.6.
func (b *book) write(id int, c api.Change) api.Errno {
	if e := firstOf(b.dead(), refuses(!c.Del && len(c.Val) > 128, api.ErrLong), b.missing(id)); e != api.OK {
		return e
	}
	d, unlike := b.deals[id], map[api.Key]int{}
	for _, old := range d.writes {
		if old.Key != c.Key {
			unlike[old.Key] = 1
		}
	}
	if len(unlike) >= 64 {
		return api.ErrMany
	}
	d.writes = append(d.writes, api.Change{Key: c.Key, Del: c.Del, Val: slices.Clone(c.Val)})
	return api.OK
}

// conflicts tells whether something that was asked is answered otherwise at the newest version.
func (b *book) conflicts(d *deal) bool {
	for _, q := range d.asked {
		then, now := b.w.maps[d.version].between(q.lo, q.hi), b.w.newest().between(q.lo, q.hi)
		if fmt.Sprint(then) != fmt.Sprint(now) {
			return true
		}
	}
	return false
}

// finish is P18.7.
func (b *book) finish(id int) (int, api.Errno) {
	if e := firstOf(b.dead(), b.missing(id)); e != api.OK {
		return 0, e
	}
	d := b.deals[id]
	if b.conflicts(d) {
		delete(b.deals, id)
		return 0, api.ErrConflict
	}
	if len(d.writes) > 0 {
		if b.w.used+b.w.price(d.writes) > b.w.pages {
			return 0, api.ErrFull
		}
		b.w.commit(d.writes)
	}
	delete(b.deals, id)
	return b.w.last(), api.OK
}

// abort is P18.8.
func (b *book) abort(id int) api.Errno {
	e := firstOf(b.dead(), b.missing(id))
	if e == api.OK {
		delete(b.deals, id)
	}
	return e
}

// act is one thing that a transaction did: a write, or a question with what was answered.
type act struct {
	change *api.Change
	lo, hi api.Key
	told   string
}

// done is a transaction that finished, or a direct Commit, and whether it made a version.
type done struct {
	acts []act
	made bool
}

// serial goes through what finished one behind the other, as P18.11 says, and tells the maps that it makes, and what one of them would have read otherwise.
func serial(order []done) (made []entries, wrong string) {
	made = []entries{{}}
	for i, d := range order {
		newest := made[len(made)-1]
		var writes []api.Change
		for j, a := range d.acts {
			if a.change != nil {
				writes = append(writes, *a.change)
			} else if told := fmt.Sprint(newest.behind(writes).between(a.lo, a.hi)); told != a.told {
				return made, fmt.Sprintf("number %d of the order, act %d: it was told %s, and is told %s there", i, j, a.told, told)
			}
		}
		if d.made {
			made = append(made, newest.behind(writes))
		}
	}
	return made, ""
}
