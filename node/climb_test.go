package node_test

import (
	"fmt"
	"math/rand/v2"
	"testing"

	"ledger/api"
	"ledger/node"
)

func TestClimbOfEdges(t *testing.T) {
	keys := []api.Key{{}, single(0), single(255), api.Key(sumOf(3))}
	for _, w := range []struct{ asked, counts int }{{-1, 0}, {0, 0}, {1, 1}, {31, 31}, {32, 32}, {33, 32}} {
		for _, from := range heights {
			for _, to := range heights {
				for _, k := range keys {
					name := fmt.Sprintf("P9.9: Climb(%d, %x, %d, .., %d)", w.asked, k, from.asked, to.asked)
					got := node.Climb(w.asked, k, from.asked, sumOf(1), to.asked)
					wantSum(t, name, got, climbed(w.counts, k, from.counts, sumOf(1), to.counts))
				}
			}
		}
	}
}

// At each height the way goes right just where the one bit that stands there is set.
func TestClimbOfEachSingleBit(t *testing.T) {
	const w = 5
	d, empty := sumOf(1), empties(w)
	for bit := range 256 {
		h := 255 - bit
		name := fmt.Sprintf("P9.9: the bit %d at the height %d", bit, h)
		wantSum(t, name, node.Climb(w, single(bit), h, d, h+1), pair(w, empty[h], d))
		wantSum(t, name+", not set", node.Climb(w, api.Key{}, h, d, h+1), pair(w, d, empty[h]))
		wantSum(t, name+", all the way", node.Climb(w, single(bit), 0, d, 256), climbed(w, single(bit), 0, d, 256))
		for _, near := range []int{h - 8, h - 1, h + 1, h + 8} {
			if near >= 0 && near < 256 {
				wantSum(t, name+", elsewhere", node.Climb(w, single(bit), near, d, near+1), pair(w, d, empty[near]))
			}
		}
	}
}

// What lies beneath the subtree, or above its end, is not asked of the key.
func TestClimbAsksOnlyTheBitsOnItsWay(t *testing.T) {
	d := sumOf(1)
	plain := node.Climb(32, api.Key{}, 100, d, 150)
	for bit := range 256 {
		onTheWay := 255-bit >= 100 && 255-bit < 150
		if (node.Climb(32, single(bit), 100, d, 150) != plain) != onTheWay {
			t.Errorf("P9.9: the bit %d between the heights 100 and 150", bit)
		}
	}
}

func TestClimbSeesTheWidthAlone(t *testing.T) {
	d, k := sumOf(1), api.Key(sumOf(2))
	for _, w := range widths {
		for _, to := range []int{100, 101, 256} {
			want := node.Climb(w.asked, k, 100, d, to)
			for i := range 32 {
				other := d
				other[i] ^= 1
				seen := i < w.counts
				if got := node.Climb(w.asked, k, 100, other, to); got != want && !seen || got == want && seen && to == 100 {
					t.Errorf("P9.9: width %d, byte %d, to %d", w.asked, i, to)
				}
			}
		}
	}
}

func TestClimbInTwoParts(t *testing.T) {
	r := rand.New(rand.NewPCG(11, 9))
	for range 500 {
		k, d, w := api.Key(sumOf(r.IntN(99))), sumOf(r.IntN(99)), r.IntN(36)-2
		a := r.IntN(257)
		b := a + r.IntN(257-a)
		c := b + r.IntN(257-b)
		got := node.Climb(w, k, b, node.Climb(w, k, a, d, b), c)
		wantSum(t, fmt.Sprintf("P9.10: width %d, %d to %d to %d", w, a, b, c), got, node.Climb(w, k, a, d, c))
	}
	for _, a := range heights {
		for _, b := range heights {
			for _, c := range heights {
				if a.counts > b.counts || b.counts > c.counts {
					continue
				}
				k, d := api.Key(sumOf(5)), sumOf(6)
				got := node.Climb(3, k, b.asked, node.Climb(3, k, a.asked, d, b.asked), c.asked)
				wantSum(t, fmt.Sprintf("P9.10: %d to %d to %d", a.asked, b.asked, c.asked), got, node.Climb(3, k, a.asked, d, c.asked))
			}
		}
	}
}

func TestClimbOfTheEmptySubtree(t *testing.T) {
	for _, w := range []int{-1, 0, 1, 4, 32, 33} {
		for _, a := range heights {
			for _, c := range heights {
				if a.counts > c.counts {
					continue
				}
				for _, k := range []api.Key{{}, single(100), api.Key(sumOf(7))} {
					got := node.Climb(w, k, a.asked, node.Empty(w, a.asked), c.asked)
					wantSum(t, fmt.Sprintf("P9.10: width %d, empty from %d to %d", w, a.asked, c.asked), got, node.Empty(w, c.asked))
				}
			}
		}
	}
}
