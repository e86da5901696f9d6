package client_test

import (
	"bytes"
	"fmt"
	"testing"

	"ledger/api"
)

// digestsOf tells all digests of a small width.
func digestsOf(w int) (all []api.Digest) {
	for n := range 1 << (8 * w) {
		all = append(all, api.Digest{byte(n), byte(n >> 8)})
	}
	return all
}

// besideMeets seeks what to put beside the path at a height so that one height above it there is this digest, of another text than this one.
func (x saying) besideMeets(h int, sum api.Digest, not []byte) (saying, bool) {
	d, bit := x.path(x.foot())[h], bitsOf(x.key)[255-h]
	for _, n := range digestsOf(x.w) {
		l, r := d, n
		if bit == '1' {
			l, r = n, d
		}
		text := append(append([]byte{1}, l[:x.w]...), r[:x.w]...)
		if cutSum(x.w, text) == sum && !bytes.Equal(text, not) {
			x.beside[h] = n
			return x, true
		}
	}
	return saying{}, false
}

// meets tells another proof for the key that has the same above a height: there the texts are unlike, and the digests are one. It answers something else, unless alike is asked.
func (x saying) meets(t *testing.T, height, seed int, alike bool) saying {
	t.Helper()
	texts := x.texts(x.foot())
	sum := cutSum(x.w, texts[height])
	for try := range 100000 {
		y := x
		if !alike {
			y.answer = api.Answer{Found: true, Val: fmt.Appendf(nil, "%d, %d", seed, try)}
		}
		if height > 1 && try > 0 {
			// At a small width unlike answers soon have one digest further up: it is this neighbour that makes each try another one.
			y.beside[height-2] = sumOf(x.w, seed+try)
		}
		if height == 0 {
			if cutSum(x.w, y.foot()) == sum && !bytes.Equal(y.foot(), texts[0]) {
				return y
			}
			continue
		}
		if met, is := y.besideMeets(height-1, sum, texts[height]); is {
			return met
		}
	}
	t.Fatalf("width %d, height %d: no proof that meets was found", x.w, height)
	return saying{}
}

// said tells what the map's proof for a key says.
func (m entries) said(t *testing.T, w int, k api.Key) saying {
	t.Helper()
	x, e := readForm(w, k, m.raw(w, k))
	if e != api.OK || x.root() != m.root(w) {
		t.Fatalf("width %d: the map's own proof for %x does not hold: %v", w, k, e)
	}
	return x
}

// someMap tells a map whose keys part high and low.
func someMap() entries {
	return entries{
		keyM: "m", flipped(keyM, 0): "a", flipped(keyM, 3): "", flipped(keyM, 40): string(text(1, 128)),
		flipped(keyM, 254): "d", keyK: "k", keyB: "y", keyZ: "z",
	}
}
