package witness_test

import (
	"bytes"
	"slices"

	"ledger/api"
	"ledger/batch"
	"ledger/client"
)

// What follows reads the promises word for word, by rows of letters and the library's SHA-256, height by height and with no forks joined: it is slow, and its shape is not the program's.

// claim is what a witness says (P22.3): of each key, and of each neighbour whose digest is given, by the neighbour's row.
type claim struct {
	w       int
	keys    []api.Key // rising
	answers map[api.Key]api.Answer
	beside  map[string]api.Digest
}

// nothing tells a claim for some keys of which nothing is there.
func nothing(w int, keys []api.Key) *claim {
	return &claim{w, inOrder(keys), map[api.Key]api.Answer{}, map[string]api.Digest{}}
}

// eachNeighbour hands on the rows of all neighbours that a witness for these keys speaks of, each with those of some other keys that lie there.
func (c *claim) eachNeighbour(others []api.Key, see func(row string, others []api.Key)) {
	var down func(row string, here, others []api.Key)
	down = func(row string, here, others []api.Key) {
		if len(here) == 0 {
			see(row, others)
			return
		}
		if len(row) < 256 {
			l, r := halves(here, len(row))
			ol, or := halves(others, len(row))
			down(row+"0", l, ol)
			down(row+"1", r, or)
		}
	}
	if len(c.keys) > 0 {
		down("", c.keys, others)
	}
}

// neighbours tells the rows of all neighbours that a witness for these keys speaks of.
func (c *claim) neighbours() (rows []string) {
	c.eachNeighbour(nil, func(row string, _ []api.Key) { rows = append(rows, row) })
	return rows
}

// claim tells what the witness for some keys says of the map.
func (m entries) claim(w int, keys []api.Key) *claim {
	c := nothing(w, keys)
	for _, k := range keys {
		c.answers[k] = m.answer(k)
	}
	c.eachNeighbour(m.rising(), func(row string, here []api.Key) {
		if len(here) > 0 {
			c.beside[row] = m.sumOfKeys(w, row, here)
		}
	})
	return c
}

// besideAt tells a neighbour's digest.
func (c *claim) besideAt(row string) api.Digest {
	if d, is := c.beside[row]; is {
		return d
	}
	return emptySum(c.w, 256-len(row))
}

// foot tells the digest of height 0 (P22.3).
func (c *claim) foot(k api.Key) api.Digest { return footOf(c.w, k, c.answers[k]) }

func footOf(w int, k api.Key, a api.Answer) api.Digest {
	if a.Found {
		return leafSum(w, k, string(a.Val))
	}
	return emptySum(w, 0)
}

// sum tells the digest of a place with what foot makes of each key (P22.3).
func (c *claim) sum(row string, foot func(api.Key) api.Digest) api.Digest {
	var up func(row string, here []api.Key) api.Digest
	up = func(row string, here []api.Key) api.Digest {
		if len(here) == 0 {
			return c.besideAt(row)
		}
		if len(row) == 256 {
			return foot(here[0])
		}
		l, r := halves(here, len(row))
		return pairSum(c.w, up(row+"0", l), up(row+"1", r))
	}
	return up(row, under(c.keys, row))
}

// root tells under which root it holds.
func (c *claim) root() api.Digest { return c.sum("", c.foot) }

// raw tells the witness's bytes.
func (c *claim) raw() []byte {
	if len(c.keys) == 0 {
		return nil
	}
	return c.text(256, c.keys)
}

// text tells the text of a place of this height for some keys.
func (c *claim) text(h int, keys []api.Key) []byte {
	if len(keys) == 1 {
		head := missing
		if a := c.answers[keys[0]]; a.Found {
			head = found(string(a.Val))
		}
		return join(head, c.row(keys[0], 0, h))
	}
	n, f := parting(keys)
	l, r := halves(keys, n)
	return join(fork, c.row(keys[0], f+1, h), c.text(f, l), c.text(f, r))
}

// parting tells how many first bits all keys share, and the height of the two places in which they lie.
func parting(keys []api.Key) (n, f int) {
	for l, r := halves(keys, n); len(l) == 0 || len(r) == 0; l, r = halves(keys, n) {
		n++
	}
	return n, 255 - n
}

// row tells the bitmap and the digests for the neighbours of a key from one height up to below another one.
func (c *claim) row(k api.Key, from, to int) []byte {
	var hs []int
	var sums []byte
	for h := from; h < to; h++ {
		if d := c.besideAt(rowBeside(k, h)); d != emptySum(c.w, h) {
			hs, sums = append(hs, h), append(sums, d[:]...)
		}
	}
	return join(bitmap(hs...), sums)
}

// reading takes a witness's bytes off from the front on.
type reading struct {
	*claim
	rest []byte
	bad  bool
	rows []string // of the digests, as they stand
	sums []api.Digest
}

// take takes so many bytes off.
func (r *reading) take(n int) []byte {
	if n > len(r.rest) {
		r.bad, r.rest = true, nil
		return make([]byte, n)
	}
	piece := r.rest[:n]
	r.rest = r.rest[n:]
	return piece
}

// text reads the text of a place of this height for some keys.
func (r *reading) text(h int, keys []api.Key) {
	mark, from := r.take(1)[0], 0
	if len(keys) > 1 {
		_, f := parting(keys)
		from = f + 1
		r.bad = r.bad || mark != 2
	} else if mark == 1 {
		length := r.take(2)
		n := int(length[0]) + 256*int(length[1])
		r.bad = r.bad || n > 128
		r.answers[keys[0]] = api.Answer{Found: true, Val: slices.Clone(r.take(n))}
	} else {
		r.bad = r.bad || mark != 0
	}
	bits := r.take(32)
	for g := range 256 {
		if bits[g/8]&(1<<(g%8)) == 0 {
			continue
		}
		r.bad = r.bad || g < from || g >= h
		r.rows = append(r.rows, rowBeside(keys[0], g))
		r.sums = append(r.sums, api.Digest(r.take(32)))
	}
	if len(keys) == 1 || r.bad {
		return
	}
	left, right := halves(keys, 256-from)
	r.text(from-1, left)
	r.text(from-1, right)
}

// readForm tells what a witness says, or what is wrong with it first (P22.2).
func readForm(w int, keys []api.Key, raw []byte) (*claim, api.Errno) {
	c := nothing(w, keys)
	r := &reading{claim: c, rest: raw}
	if len(keys) > 0 {
		r.text(256, c.keys)
	}
	if r.bad || len(r.rest) > 0 {
		return nil, api.ErrProof
	}
	for i, d := range r.sums {
		if !bytes.Equal(d[w:], make([]byte, 32-w)) {
			return nil, api.ErrProof
		}
		if d == emptySum(w, 256-len(r.rows[i])) {
			return nil, api.ErrDefault
		}
		c.beside[r.rows[i]] = d
	}
	return c, api.OK
}

// readHeld tells what a witness says that holds, or why it does not (P22.3).
func readHeld(w int, root api.Digest, keys []api.Key, raw []byte) (*claim, api.Errno) {
	c, e := readForm(w, keys, raw)
	if e == api.OK && len(keys) > 0 && c.root() != root {
		return nil, api.ErrRoot
	}
	return c, e
}

// wrongList tells what is wrong with a width and a list of keys (P22.1).
func wrongList(w int, keys []api.Key) api.Errno {
	seen := map[api.Key]bool{}
	for _, k := range keys {
		seen[k] = true
	}
	switch {
	case w < 1 || w > 32:
		return api.ErrArg
	case len(keys) > 64:
		return api.ErrMany
	case len(seen) < len(keys):
		return api.ErrDup
	}
	return api.OK
}

// firstOf tells the first refusal.
func firstOf(es ...api.Errno) api.Errno {
	for _, e := range es {
		if e != api.OK {
			return e
		}
	}
	return api.OK
}

// P22.4
func readVerify(w int, root api.Digest, keys []api.Key, raw []byte) (as []api.Answer, e api.Errno) {
	if e := wrongList(w, keys); e != api.OK {
		return nil, e
	}
	c, e := readHeld(w, root, keys, raw)
	if e != api.OK {
		return nil, e
	}
	for _, k := range keys {
		as = append(as, c.answers[k])
	}
	return as, api.OK
}

// P22.5
func (c *claim) part(k api.Key) []byte {
	one := nothing(c.w, []api.Key{k})
	one.answers[k] = c.answers[k]
	for h := range 256 {
		row := rowBeside(k, h)
		one.beside[row] = c.sum(row, c.foot)
	}
	return one.raw()
}

func readPart(w int, keys []api.Key, raw []byte, k api.Key) ([]byte, api.Errno) {
	if e := wrongList(w, keys); e != api.OK {
		return nil, e
	}
	c, e := readForm(w, keys, raw)
	if e != api.OK {
		return nil, e
	}
	if !slices.Contains(keys, k) {
		return nil, api.ErrKey
	}
	return c.part(k), api.OK
}

// P22.6
func readGather(w int, root api.Digest, keys []api.Key, raws [][]byte) ([]byte, api.Errno) {
	if e := wrongList(w, keys); e != api.OK {
		return nil, e
	}
	if len(keys) != len(raws) {
		return nil, api.ErrArg
	}
	c, single := nothing(w, keys), map[api.Key]*claim{}
	for i, k := range keys {
		a, e := client.Verify(w, root, k, raws[i])
		if e != api.OK {
			return nil, e
		}
		c.answers[k] = a
		single[k], _ = readForm(w, keys[i:i+1], raws[i])
	}
	for _, row := range c.neighbours() {
		least := under(c.keys, row[:len(row)-1])[0]
		c.beside[row] = single[least].besideAt(row)
	}
	if len(keys) > 0 && c.root() != root {
		return nil, api.ErrRoot
	}
	return c.raw(), api.OK
}

// madeOf tells what changes make of the keys that they name.
func madeOf(cs []api.Change) map[api.Key]api.Answer {
	made := map[api.Key]api.Answer{}
	for _, c := range cs {
		made[c.Key] = entries{}.behind(c).answer(c.Key)
	}
	return made
}

// P22.8
func readStep(w int, root api.Digest, raw, changes []byte) (api.Digest, api.Errno) {
	if e := wrongList(w, nil); e != api.OK {
		return api.Digest{}, e
	}
	cs, _, e := batch.Parse(changes)
	if e != api.OK {
		return api.Digest{}, e
	}
	c, e := readHeld(w, root, namedBy(cs), raw)
	if e != api.OK || len(cs) == 0 {
		return firstRoot(root, e), e
	}
	made := madeOf(cs)
	return c.sum("", func(k api.Key) api.Digest { return footOf(w, k, made[k]) }), api.OK
}

// firstRoot tells the root if nothing is refused.
func firstRoot(root api.Digest, e api.Errno) api.Digest {
	if e != api.OK {
		return api.Digest{}
	}
	return root
}

// P22.9
func readRenew(w int, root api.Digest, keys []api.Key, raw, rawAt, changes []byte) ([]byte, api.Errno) {
	if e := wrongList(w, keys); e != api.OK {
		return nil, e
	}
	cs, _, e := batch.Parse(changes)
	if e != api.OK {
		return nil, e
	}
	own, e1 := readHeld(w, root, keys, raw)
	at, e2 := readHeld(w, root, namedBy(cs), rawAt)
	if e := firstOf(e1, e2); e != api.OK {
		return nil, e
	}
	made := madeOf(cs)
	own.eachNeighbour(at.keys, func(row string, here []api.Key) {
		if len(here) > 0 {
			own.beside[row] = at.sum(row, func(k api.Key) api.Digest { return footOf(w, k, made[k]) })
		}
	})
	for k, a := range made {
		own.answers[k] = a
	}
	return own.raw(), api.OK
}

// P22.10
func readClash(w int, root api.Digest, keys []api.Key, p1, p2 []byte) ([]byte, []byte, bool) {
	if wrongList(w, keys) != api.OK {
		return nil, nil, false
	}
	one, e1 := readHeld(w, root, keys, p1)
	two, e2 := readHeld(w, root, keys, p2)
	if e1 != api.OK || e2 != api.OK {
		return nil, nil, false
	}
	for _, k := range one.keys {
		if !sameAnswer(one.answers[k], two.answers[k]) {
			return client.Extract(w, root, k, one.part(k), two.part(k))
		}
	}
	return nil, nil, false
}
