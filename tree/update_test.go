package tree_test

import (
	"fmt"
	"slices"
	"strings"
	"testing"

	"ledger/api"
)

// P10.9: each page's number and each byte, of keys that share 0, 1, 254 and 255 bits, put at once and one behind the other, either way round.
func TestPagesOfTwoKeys(t *testing.T) {
	base := keyOf("1010011100110")
	for _, shared := range []int{0, 1, 2, 7, 8, 9, 100, 127, 128, 253, 254, 255} {
		other := flipped(base, shared)
		r := begun(t, fmt.Sprintf("P10.9: %d bits", shared), 1200, 4)
		m := entries{base: "a", other: "b"}
		for _, list := range [][]api.Change{{put(base, "a"), put(other, "b")}, {put(other, "b"), put(base, "a")}} {
			next := r.s.Next()
			root, _ := r.asRead(0, list...)
			if root != next+2+shared {
				t.Errorf("P10.9: %d bits: the root is page %d, want %d", shared, root, next+2+shared)
			}
			low, high := base, other
			if strings.Compare(bitsOf(base), bitsOf(other)) > 0 {
				low, high = other, base
			}
			r.holds(next, api.Node{Kind: 1, Key: low, Val: []byte(m[low])})
			r.holds(next+1, api.Node{Kind: 1, Key: high, Val: []byte(m[high])})
			r.isMap(root, m)
		}
		for _, order := range [][2]api.Key{{base, other}, {other, base}} {
			first, _ := r.asRead(0, put(order[0], m[order[0]]))
			second, _ := r.asRead(first, put(order[1], m[order[1]]))
			if second != first+2+shared {
				t.Errorf("P10.9: %d bits: the root is page %d, want %d", shared, second, first+2+shared)
			}
			r.isMap(second, m)
			r.isMap(first, entries{order[0]: m[order[0]]})
		}
	}
}

// P10.9: the left child's pages, then the right one's, then the branch, at each height.
func TestOrderOfPages(t *testing.T) {
	r := begun(t, "P10.9", 40, 32)
	var cs []api.Change
	for _, row := range []string{"111", "000", "010", "001", "110", "011"} {
		cs = append(cs, put(keyOf(row), row))
	}
	r.asRead(0, cs...)
	var got []string
	for page := 2; page < r.s.Next(); page++ {
		n := r.node(page)
		got = append(got, fmt.Sprint(string(n.Val), n.Left, n.Right))
	}
	want := []string{
		"0000 0", "0010 0", "2 3", "0100 0", "0110 0", "5 6", "4 7", // 2 to 8: the left half
		"1100 0", "1110 0", "9 10", "0 11", "8 12", // 9 to 13: the right half, under two rows, and the root
	}
	if !slices.Equal(got, want) {
		t.Errorf("P10.9: %q, want %q", got, want)
	}
}

// P10.9, P10.14: changes that take no effect, alone and beside others.
func TestChangesWithoutEffect(t *testing.T) {
	r := begun(t, "P10.14", 400, 4)
	m := entries{keyK: "x", single(1): "", single(2): "2", keyB: "y", flipped(keyB, 5): "5"}
	root, _ := r.asRead(0, m.puts()...)
	idle := []api.Change{
		put(keyK, "x"), put(single(1), ""), put(keyB, "y"), del(keyC), del(single(100)), del(flipped(keyB, 1)),
		{Key: flipped(keyB, 255), Del: true, Val: []byte("says nothing")},
	}
	r.updates(root, root, 0)
	r.updates(root, root, 0, idle...)
	r.updates(0, 0, 0, del(keyK), del(keyB))
	for i, c := range idle {
		r.updates(root, root, 0, c)
		r.updates(root, root, 0, idle[:i]...)
	}
	real := []api.Change{put(single(2), "other"), put(flipped(keyB, 5), ""), put(single(200), "new"), del(single(2)), del(flipped(keyB, 5)), put(flipped(keyB, 3), "")}
	for _, c := range real {
		alone := r.readList(root, []api.Change{c})
		alone.build("")
		for n := range idle {
			cs := append(slices.Clone(idle[n:]), c)
			next := r.s.Next()
			behind, e := r.asRead(root, cs...)
			if e != api.OK || r.s.Next()-next != len(alone.staged) {
				t.Errorf("P10.9: beside %d idle changes: %v, %d pages, want %d", len(cs)-1, e, r.s.Next()-next, len(alone.staged))
			}
			r.isMap(behind, m.behind(cs))
			if e := r.s.Rewind(next); e != api.OK {
				t.Fatal(e)
			}
		}
	}
}

// P10.9: a put whose value is there is none, also where it is empty; a put of another value is one, whatever its digest.
func TestValues(t *testing.T) {
	for _, w := range []int{1, 4} {
		r := begun(t, "P10.15", 4000, w)
		for _, n := range []int{0, 1, 2, 127, 128} {
			val := string(text(n, n))
			root, _ := r.asRead(0, put(keyK, val), put(keyB, val))
			r.isMap(root, entries{keyK: val, keyB: val})
			r.updates(root, root, 0, put(keyK, val), put(keyB, val))
			for _, other := range []string{"", "?", val + "?", val[:n/2], string(make([]byte, n))} {
				if len(other) <= 128 && other != val {
					behind, _ := r.asRead(root, put(keyK, other))
					r.isMap(behind, entries{keyK: other, keyB: val})
				}
			}
		}
		root, _ := r.asRead(0, put(keyK, "x"))
		for i := range 600 { // at width 1 two of these have one digest
			behind, _ := r.asRead(root, put(keyK, string(text(i, 2))))
			r.gets(behind, keyK, string(text(i, 2)))
			root = behind
		}
	}
}

// P10.15: a delete's Val says nothing, however long it is.
func TestDeletesWithAVal(t *testing.T) {
	for _, n := range []int{0, 1, 128, 129, 500} {
		r := begun(t, "P10.15", 40, 4)
		root := r.updates(0, 4, 3, put(keyK, "x"), put(keyB, "y"))
		r.updates(root, 2, 0, api.Change{Key: keyB, Del: true, Val: text(1, n)})
		r.updates(root, 0, 0, api.Change{Key: keyB, Del: true, Val: text(1, n)}, api.Change{Key: keyK, Del: true, Val: []byte("x")})
		r.updates(0, 0, 0, api.Change{Del: true, Val: text(1, n)})
	}
}

// P10.9, P10.10: a lone leaf that moves up, from each height to each one above it, keeps its page.
func TestLeafMovesUp(t *testing.T) {
	base := keyOf("0110111001")
	for _, from := range []int{1, 2, 9, 128, 254, 255} { // how many bits the two share
		for _, to := range []int{-1, 0, 1, 8, 127, 253, 254} { // and how many with a third key, which stays
			if to >= from {
				continue
			}
			r := begun(t, fmt.Sprintf("P10.10: from %d to %d", from, to), 1100, 4)
			m := entries{base: "b", flipped(base, from): "f"}
			if to >= 0 {
				m[flipped(base, to)] = "t"
			}
			root, _ := r.asRead(0, m.puts()...)
			at := r.leafAt(root, base)
			for _, cs := range [][]api.Change{{del(flipped(base, from))}, {del(flipped(base, from)), put(base, "b")}} {
				next := r.s.Next()
				behind, _ := r.asRead(root, cs...)
				r.isMap(behind, m.behind(cs))
				if got := r.leafAt(behind, base); got != at || r.s.Next() != next+to+1 {
					t.Errorf("P10.10: from %d to %d: the leaf lies on page %d, %d staged, want %d, %d", from, to, got, r.s.Next()-next, at, to+1)
				}
			}
			if to >= 0 {
				r.emptied(root, m, base)
			}
		}
	}
}

// emptied asks that a leaf is the root again if all others go.
func (r *rig) emptied(root int, m entries, stays api.Key) {
	r.Helper()
	var cs []api.Change
	for k := range m {
		if k != stays {
			cs = append(cs, del(k))
		}
	}
	r.updates(root, r.leafAt(root, stays), 0, cs...)
}

// leafAt tells the page of the leaf at the end of a key's path.
func (r *rig) leafAt(root int, k api.Key) int {
	r.Helper()
	page := root
	for _, bit := range bitsOf(k) {
		n := r.node(page)
		switch {
		case n.Kind == api.KindLeaf:
			return page
		case bit == '0':
			page = n.Left
		default:
			page = n.Right
		}
	}
	return page
}

// P10.9, P10.10: a leaf that moves down, from each height to each one below it, keeps its page.
func TestLeafMovesDown(t *testing.T) {
	base := keyOf("1001000110")
	for _, from := range []int{-1, 0, 1, 8, 127, 253, 254} {
		for _, to := range []int{0, 1, 2, 9, 128, 254, 255} {
			if to <= from {
				continue
			}
			r := begun(t, fmt.Sprintf("P10.10: from %d to %d", from, to), 1100, 4)
			m := entries{base: "b"}
			if from >= 0 {
				m[flipped(base, from)] = "f"
			}
			root, _ := r.asRead(0, m.puts()...)
			at := r.leafAt(root, base)
			for _, cs := range [][]api.Change{{put(flipped(base, to), "t")}, {put(flipped(base, to), "t"), put(base, "b")}} {
				next := r.s.Next()
				behind, _ := r.asRead(root, cs...)
				r.isMap(behind, m.behind(cs))
				if got := r.leafAt(behind, base); got != at || r.s.Next() != next+to+2 {
					t.Errorf("P10.10: from %d to %d: the leaf lies on page %d, %d staged, want %d, %d", from, to, got, r.s.Next()-next, at, to+2)
				}
			}
		}
	}
}

// P10.9: in one list a neighbour goes and another one comes: the leaf moves up, down, or stays, and keeps its page; or it comes anew.
func TestNeighboursChange(t *testing.T) {
	base := keyOf("00101")
	for _, old := range []int{0, 1, 5, 100, 254, 255} {
		for _, late := range []int{0, 1, 5, 100, 254, 255} {
			r := begun(t, fmt.Sprintf("P10.10: %d, then %d", old, late), 1400, 4)
			m := entries{base: "b", flipped(base, old): "old"}
			root, _ := r.asRead(0, m.puts()...)
			at := r.leafAt(root, base)
			lists := [][]api.Change{{del(flipped(base, old)), put(flipped(base, late), "late")}}
			if old == late {
				lists[0] = lists[0][1:]
			}
			lists = append(lists, append(slices.Clone(lists[0]), put(base, "b")), append(slices.Clone(lists[0]), put(base, "other")), append(slices.Clone(lists[0]), del(base)))
			for i, cs := range lists {
				behind, _ := r.asRead(root, cs...)
				r.isMap(behind, m.behind(cs))
				if kept := r.leafAt(behind, base) == at; kept != (i < 2) {
					t.Errorf("P10.10: %d, then %d: the leaf keeps its page: %t", old, late, kept)
				}
			}
			r.isMap(root, m)
		}
	}
}

// P10.9: where all of a half goes, the other half keeps its page beside a page 0.
func TestHalfGoes(t *testing.T) {
	r := begun(t, "P10.9", 60, 4)
	m := entries{keyOf("000"): "0", keyOf("001"): "1", keyOf("010"): "2", keyOf("100"): "4", keyOf("101"): "5"}
	root, _ := r.asRead(0, m.puts()...)
	was := r.node(root)
	for _, rows := range [][]string{{"000", "001", "010"}, {"100", "101"}, {"000", "001"}, {"010"}, {"000", "001", "010", "100"}, {"000", "001", "010", "100", "101"}} {
		var cs []api.Change
		for _, row := range rows {
			cs = append(cs, del(keyOf(row)))
		}
		behind, _ := r.asRead(root, cs...)
		r.isMap(behind, m.behind(cs))
	}
	left := r.updates(root, r.s.Next(), 1, del(keyOf("100")), del(keyOf("101")))
	r.holds(left, api.Node{Kind: 2, Left: was.Left, LeftCount: 3, LeftSum: was.LeftSum})
	right := r.updates(root, r.s.Next(), 1, del(keyOf("000")), del(keyOf("001")), del(keyOf("010")))
	r.holds(right, api.Node{Kind: 2, Right: was.Right, RightCount: 2, RightSum: was.RightSum})
}
