package client_test

import (
	"bytes"
	"slices"
	"strings"
	"testing"

	"ledger/api"
	"ledger/client"
)

// What follows reads the promises word for word, by rows of letters, texts and the library's SHA-256: it is slow, and its shape is not the program's.

// saying is what a proof in form says of its key (P13.1, P13.2).
type saying struct {
	w      int
	key    api.Key
	answer api.Answer
	beside [256]api.Digest
}

// readBytes tells the proof whose bytes these are (P12.10).
func readBytes(raw []byte) (p api.Proof, is bool) {
	rest := raw
	take := func(n int) []byte {
		if n > len(rest) {
			is = false
			return make([]byte, n)
		}
		piece := rest[:n]
		rest = rest[n:]
		return piece
	}
	is = true
	switch take(1)[0] {
	case 0:
	case 1:
		length := take(2)
		n := int(length[0]) + 256*int(length[1])
		if n > 128 {
			return api.Proof{}, false
		}
		p.Found, p.Val = true, slices.Clone(take(n))
	default:
		return api.Proof{}, false
	}
	p.Bits = [32]byte(take(32))
	for h := range 256 {
		if p.Bits[h/8]>>(h%8)&1 == 1 {
			p.Sums = append(p.Sums, api.Digest(take(32)))
		}
	}
	return p, is && bytes.Equal(rawOf(p), raw)
}

// readForm tells what a proof says, or what is wrong with it first (P13.1, P13.2).
func readForm(w int, k api.Key, raw []byte) (x saying, e api.Errno) {
	p, is := readBytes(raw)
	if !is {
		return saying{}, api.ErrProof
	}
	x = saying{w: w, key: k, answer: api.Answer{Found: p.Found, Val: p.Val}}
	next := 0
	for h := range 256 {
		x.beside[h] = emptySum(w, h)
		if p.Bits[h/8]>>(h%8)&1 == 0 {
			continue
		}
		d := p.Sums[next]
		next++
		if !bytes.Equal(d[w:], make([]byte, 32-w)) {
			return saying{}, api.ErrProof
		}
		if d == emptySum(w, h) {
			return saying{}, api.ErrDefault
		}
		x.beside[h] = d
	}
	return x, api.OK
}

// foot tells the text of height 0 (P13.4).
func (x saying) foot() []byte {
	if x.answer.Found {
		return slices.Concat([]byte{0}, x.key[:], x.answer.Val)
	}
	return []byte{2}
}

// footBehind tells the text of height 0 that a change makes (P13.9).
func footBehind(c api.Change) []byte {
	if c.Del {
		return []byte{2}
	}
	return slices.Concat([]byte{0}, c.Key[:], c.Val)
}

// texts tells the texts of the 257 heights from the one of height 0 on (P13.4).
func (x saying) texts(foot []byte) [][]byte {
	all, bits := [][]byte{foot}, bitsOf(x.key)
	for h := range 256 {
		d, n := cutSum(x.w, all[h]), x.beside[h]
		if bits[255-h] == '0' {
			all = append(all, slices.Concat([]byte{1}, d[:x.w], n[:x.w]))
		} else {
			all = append(all, slices.Concat([]byte{1}, n[:x.w], d[:x.w]))
		}
	}
	return all
}

// path tells the digests of the texts (P13.3, P13.4).
func (x saying) path(foot []byte) (all []api.Digest) {
	for _, text := range x.texts(foot) {
		all = append(all, cutSum(x.w, text))
	}
	return all
}

// root tells under which root it holds.
func (x saying) root() api.Digest { return x.path(x.foot())[256] }

// raw tells the bytes of the proof that says this.
func (x saying) raw() []byte {
	p := api.Proof{Found: x.answer.Found, Val: x.answer.Val}
	for h, d := range x.beside {
		if d != emptySum(x.w, h) {
			p.Bits[h/8] |= 1 << (h % 8)
			p.Sums = append(p.Sums, d)
		}
	}
	return rawOf(p)
}

// readHeld tells what a proof says that holds, or why it does not (P13.5).
func readHeld(w int, root api.Digest, k api.Key, raw []byte) (saying, api.Errno) {
	x, e := readForm(w, k, raw)
	if e != api.OK {
		return saying{}, e
	}
	if x.root() != root {
		return saying{}, api.ErrRoot
	}
	return x, api.OK
}

func readVerify(w int, root api.Digest, k api.Key, raw []byte) (api.Answer, api.Errno) {
	if w < 1 || w > 32 {
		return api.Answer{}, api.ErrArg
	}
	x, e := readHeld(w, root, k, raw)
	return x.answer, e
}

func readPath(w int, k api.Key, raw []byte) ([]api.Digest, api.Errno) {
	if w < 1 || w > 32 {
		return nil, api.ErrArg
	}
	x, e := readForm(w, k, raw)
	if e != api.OK {
		return nil, e
	}
	return x.path(x.foot()), api.OK
}

func readExtract(w int, root api.Digest, k api.Key, p1, p2 []byte) (one, two []byte, is bool) {
	if w < 1 || w > 32 {
		return nil, nil, false
	}
	x, e1 := readHeld(w, root, k, p1)
	y, e2 := readHeld(w, root, k, p2)
	if e1 != api.OK || e2 != api.OK || bytes.Equal(p1, p2) {
		return nil, nil, false
	}
	xs, ys := x.texts(x.foot()), y.texts(y.foot())
	for h := range 257 {
		if !bytes.Equal(xs[h], ys[h]) {
			one, two, is = xs[h], ys[h], true
		}
	}
	return one, two, is
}

// readAt tells what the proof for a change's key says, if it holds and the change is right (P13.9, P13.10).
func readAt(w int, root api.Digest, raw []byte, c api.Change) (saying, api.Errno) {
	x, e := readHeld(w, root, c.Key, raw)
	if e == api.OK && !c.Del && len(c.Val) > 128 {
		return saying{}, api.ErrLong
	}
	return x, e
}

func readAdvance(w int, root api.Digest, raw []byte, c api.Change) (api.Digest, api.Errno) {
	if w < 1 || w > 32 {
		return api.Digest{}, api.ErrArg
	}
	x, e := readAt(w, root, raw, c)
	if e != api.OK {
		return api.Digest{}, e
	}
	return x.path(footBehind(c))[256], api.OK
}

func readRenew(w int, root api.Digest, k api.Key, raw, rawAt []byte, c api.Change) ([]byte, api.Errno) {
	if w < 1 || w > 32 {
		return nil, api.ErrArg
	}
	x, e := readHeld(w, root, k, raw)
	if e != api.OK {
		return nil, e
	}
	at, e := readAt(w, root, rawAt, c)
	if e != api.OK {
		return nil, e
	}
	if k == c.Key {
		x.answer = entries{}.behind(c).answer(k)
		return x.raw(), api.OK
	}
	h := 255 - shared(k, c.Key)
	x.beside[h] = at.path(footBehind(c))[h]
	return x.raw(), api.OK
}

// wrongList tells what batch.Normal says of a list (P3.1).
func wrongList(cs []api.Change) api.Errno {
	if len(cs) > 4096 {
		return api.ErrMany
	}
	seen, twice := map[api.Key]bool{}, false
	for _, c := range cs {
		if !c.Del && len(c.Val) > 128 {
			return api.ErrLong
		}
		twice = twice || seen[c.Key]
		seen[c.Key] = true
	}
	if twice {
		return api.ErrDup
	}
	return api.OK
}

// changed is what one change says, with what its proof does.
type changed struct {
	*saying
	c api.Change
}

// together tells the digest of the changes under a row (P13.11).
func together(w int, all []changed, row string) api.Digest {
	var here []changed
	for _, x := range all {
		if strings.HasPrefix(bitsOf(x.key), row) {
			here = append(here, x)
		}
	}
	if len(row) == 256 {
		return cutSum(w, footBehind(here[0].c))
	}
	least := slices.MinFunc(here, func(a, b changed) int { return bytes.Compare(a.key[:], b.key[:]) })
	h := 255 - len(row)
	side := func(bit string) api.Digest {
		for _, x := range here {
			if strings.HasPrefix(bitsOf(x.key), row+bit) {
				return together(w, here, row+bit)
			}
		}
		return least.beside[h]
	}
	return pairSum(w, side("0"), side("1"))
}

func readAdvanceAll(w int, root api.Digest, cs []api.Change, raws [][]byte) (api.Digest, api.Errno) {
	if w < 1 || w > 32 || len(cs) != len(raws) {
		return api.Digest{}, api.ErrArg
	}
	if e := wrongList(cs); e != api.OK {
		return api.Digest{}, e
	}
	var all []changed
	for i, c := range cs {
		x, e := readHeld(w, root, c.Key, raws[i])
		if e != api.OK {
			return api.Digest{}, e
		}
		all = append(all, changed{&x, c})
	}
	if len(all) == 0 {
		return root, api.OK
	}
	return together(w, all, ""), api.OK
}

// ask asks the calls, and holds each answer against the plain reading; each tells what was answered.
type ask struct {
	*testing.T
	promise string
	w       int
	root    api.Digest
}

func (a ask) verify(k api.Key, raw []byte) (api.Answer, api.Errno) {
	a.Helper()
	got, e := client.Verify(a.w, a.root, k, raw)
	want, why := readVerify(a.w, a.root, k, raw)
	if !sameAnswer(got, want) || e != why || (e != api.OK || !got.Found) && got.Val != nil {
		a.Errorf("%s: width %d: Verify(%x, %x, %x) = %v, %v, want %v, %v", a.promise, a.w, a.root, k, raw, got, e, want, why)
	}
	return got, e
}

func (a ask) path(k api.Key, raw []byte) ([]api.Digest, api.Errno) {
	a.Helper()
	got, e := client.Path(a.w, k, raw)
	want, why := readPath(a.w, k, raw)
	if !slices.Equal(got, want) || e != why || e != api.OK && got != nil {
		a.Errorf("%s: width %d: Path(%x, %x) = %x, %v, want %x, %v", a.promise, a.w, k, raw, got, e, want, why)
	}
	return got, e
}

func (a ask) extract(k api.Key, p1, p2 []byte) (one, two []byte, is bool) {
	a.Helper()
	one, two, is = client.Extract(a.w, a.root, k, p1, p2)
	want1, want2, want := readExtract(a.w, a.root, k, p1, p2)
	if !bytes.Equal(one, want1) || !bytes.Equal(two, want2) || is != want || !is && (one != nil || two != nil) {
		a.Errorf("%s: width %d: Extract(%x, %x, %x, %x) = %x, %x, %t, want %x, %x, %t", a.promise, a.w, a.root, k, p1, p2, one, two, is, want1, want2, want)
	}
	if is && (bytes.Equal(one, two) || cutSum(a.w, one) != cutSum(a.w, two)) {
		a.Errorf("P13.8: %s: width %d: %x and %x are one text, or have two digests", a.promise, a.w, one, two)
	}
	return one, two, is
}

func (a ask) advance(raw []byte, c api.Change) (api.Digest, api.Errno) {
	a.Helper()
	got, e := client.Advance(a.w, a.root, raw, c)
	want, why := readAdvance(a.w, a.root, raw, c)
	if got != want || e != why {
		a.Errorf("%s: width %d: Advance(%x, %x, %v) = %x, %v, want %x, %v", a.promise, a.w, a.root, raw, c, got, e, want, why)
	}
	return got, e
}

func (a ask) renew(k api.Key, raw, rawAt []byte, c api.Change) ([]byte, api.Errno) {
	a.Helper()
	got, e := client.Renew(a.w, a.root, k, raw, rawAt, c)
	want, why := readRenew(a.w, a.root, k, raw, rawAt, c)
	if !bytes.Equal(got, want) || e != why || e != api.OK && got != nil {
		a.Errorf("%s: width %d: Renew(%x, %x, %x, %x, %v) = %x, %v, want %x, %v", a.promise, a.w, a.root, k, raw, rawAt, c, got, e, want, why)
	}
	return got, e
}

func (a ask) advanceAll(cs []api.Change, raws [][]byte) (api.Digest, api.Errno) {
	a.Helper()
	got, e := client.AdvanceAll(a.w, a.root, cs, raws)
	want, why := readAdvanceAll(a.w, a.root, cs, raws)
	if got != want || e != why {
		a.Errorf("%s: width %d: AdvanceAll(%x, %d changes, %d proofs) = %x, %v, want %x, %v", a.promise, a.w, a.root, len(cs), len(raws), got, e, want, why)
	}
	return got, e
}

// all asks every call about one proof for one key, as the only one and as one of two, and tells what Verify says of it.
func (a ask) all(k api.Key, raw []byte) api.Errno {
	a.Helper()
	_, why := a.verify(k, raw)
	a.path(k, raw)
	a.extract(k, raw, raw)
	a.advance(raw, put(k, "all"))
	a.advance(raw, put(k, string(text(1, 129))))
	a.renew(k, raw, raw, del(k))
	a.advanceAll([]api.Change{put(k, "all")}, [][]byte{raw})
	return why
}
