package span_test

import (
	"bytes"
	"math/rand/v2"
	"slices"
	"testing"

	"ledger/api"
	"ledger/span"
)

// spoil writes into a list and behind it, as far as its memory reaches.
func spoil(list []byte) {
	for i := range list[:cap(list)] {
		list[:cap(list)][i] ^= 255
	}
	_ = append(list, "spare"...)
}

// roomy tells the same bytes with others behind them, in the room that a caller may have there.
func roomy(raw []byte) []byte {
	return append(slices.Clone(raw), text(9, 70)...)[: len(raw) : len(raw)+70]
}

// whole tells bytes with the room behind them.
func whole(raw []byte) []byte { return raw[:cap(raw)] }

// R5: whoever writes into a proof, or behind it, touches nothing else: not the store, not the next proof.
func TestProofIsNewMemory(t *testing.T) {
	made, roots, all := made(t, "R5", 4)
	for _, room := range []int{0, 4096} {
		r := made.reopened(room)
		staged := r.update(roots[2], put(keyC, string(text(1, 128))))
		trees := append(slices.Clone(roots), staged, 0)
		maps := append(slices.Clone(all), all[2].behind([]api.Change{put(keyC, string(text(1, 128)))}), entries{})
		r.quiet(func() {
			for range 2 {
				for i, root := range trees {
					for _, at := range askedOf() {
						want := maps[i].proof(4, at[0], at[1])
						raw, e := span.Prove(r.s, root, at[0], at[1])
						if !bytes.Equal(raw, want) || e != api.OK {
							t.Fatalf("R5: Prove(%d, %x, %x) = %x, %v, want %x", root, at[0], at[1], raw, e, want)
						}
						spoil(raw)
						r.proves(root, at[0], at[1], want)
					}
				}
			}
		})
	}
}

// R5: the entries share no memory with the proof, nor with one another, and the proof is left as it is.
func TestEntriesAreNewMemory(t *testing.T) {
	m := someMap()
	for _, at := range [][2]api.Key{{keyA, keyZ}, {keyM, keyM}, {keyC, keyB}} {
		want := m.between(at[0], at[1])
		raw := roomy(m.proof(4, at[0], at[1]))
		was := slices.Clone(whole(raw))
		list, e := span.Verify(4, m.root(4), at[0], at[1], raw)
		if e != api.OK || !same(list, want) || !bytes.Equal(whole(raw), was) {
			t.Fatalf("R5: %s, %v", told(list), e)
		}
		for i := range list {
			spoil(list[i].Val)
			if !same(list[i+1:], want[i+1:]) {
				t.Errorf("R5: two entries share memory")
			}
		}
		for i := range list[:cap(list)] {
			list[:cap(list)][i] = api.Entry{}
		}
		_ = append(list, api.Entry{})
		if !bytes.Equal(whole(raw), was) {
			t.Errorf("R5: the entries share memory with the proof")
		}
		list, _ = span.Verify(4, m.root(4), at[0], at[1], raw)
		spoil(raw)
		if !same(list, want) {
			t.Errorf("R5: the proof shares memory with the entries")
		}
	}
}

// R4, R5: refused bytes are left as they are, and the room behind them is not read.
func TestRefusedBytesAreLeft(t *testing.T) {
	m := someMap()
	raw := m.proof(32, keyA, keyZ)
	for n := range raw {
		part := append(slices.Clone(raw[:n]), raw[n:]...)[:n]
		l, e := span.Verify(32, m.root(32), keyA, keyZ, part)
		if e != api.ErrProof || l != nil || !bytes.Equal(part[:len(raw)], raw) {
			t.Fatalf("R4: %d bytes: %v, %v", n, told(l), e)
		}
	}
}

// R5: the two texts share no memory with one another, nor with the proofs.
func TestTextsAreNewMemory(t *testing.T) {
	const w = 1
	rnd := rand.New(rand.NewPCG(4, 14))
	for _, height := range []int{0, 1, 100, 255, 256} {
		for _, keys := range [][2]int{{0, 1}, {1, 1}, {1, 2}} {
			if height == 0 && keys[1] > 1 {
				continue
			}
			m, other, met := meeting(rnd, w, bitsOf(keyM)[:256-height], keys[0], keys[1])
			if !met {
				continue
			}
			root := m.root(w)
			p1, p2 := roomy(m.proof(w, keyA, keyZ)), roomy(other.proof(w, keyA, keyZ))
			was1, was2 := slices.Clone(whole(p1)), slices.Clone(whole(p2))
			want1, want2, _, _ := clashOf(w, root, keyA, keyZ, p1, p2)
			x, y, found := span.Clash(w, root, keyA, keyZ, p1, p2)
			if !found || !bytes.Equal(x, want1) || !bytes.Equal(y, want2) || !bytes.Equal(whole(p1), was1) || !bytes.Equal(whole(p2), was2) {
				t.Fatalf("P14.7: height %d: %x, %x, %t", height, x, y, found)
			}
			spoil(x)
			if !bytes.Equal(y, want2) || !bytes.Equal(whole(p1), was1) || !bytes.Equal(whole(p2), was2) {
				t.Errorf("R5: height %d: the first text shares memory", height)
			}
			spoil(y)
			if !bytes.Equal(whole(p1), was1) || !bytes.Equal(whole(p2), was2) {
				t.Errorf("R5: height %d: the second text shares memory", height)
			}
			x, y, _ = span.Clash(w, root, keyA, keyZ, p1, p2)
			spoil(p1)
			spoil(p2)
			if !bytes.Equal(x, want1) || !bytes.Equal(y, want2) {
				t.Errorf("R5: height %d: the proofs share memory with the texts", height)
			}
		}
	}
}

// R5: one and the same list as both proofs, and calls in any order: nothing is kept.
func TestNothingIsKept(t *testing.T) {
	m, n := someMap(), chapterMap()
	for range 2 {
		for _, c := range []struct {
			m entries
			w int
		}{{m, 4}, {n, 32}, {m, 1}, {n, 4}, {entries{}, 4}} {
			a := ask{t, "P14.8: nothing is kept", c.w, c.m.root(c.w), keyA, keyZ}
			raw := c.m.proof(c.w, keyA, keyZ)
			a.shows(raw, c.m.between(keyA, keyZ))
			a.clash(raw, raw)
			a.refuses(raw[1:], api.ErrProof)
		}
	}
}
