package span_test

import (
	"bytes"
	"strings"
	"testing"

	"ledger/api"
	"ledger/digest"
	"ledger/span"
)

// entry tells one entry.
func entry(k api.Key, val string) api.Entry { return api.Entry{Key: k, Val: []byte(val)} }

// chapterMap is M of the chapter's examples.
func chapterMap() entries { return entries{keyA: "a", keyB: "b"} }

// of asks for the spans of a map at the width 32.
func of(t *testing.T, promise string, m entries, lo, hi api.Key) ask {
	return ask{t, promise, 32, m.root(32), lo, hi}
}

// Rows 1 to 7: what Prove answers, and what Verify shows of it.
func TestExamplesProve(t *testing.T) {
	a, b := loneText(keyA, "a"), loneText(keyB, "b")
	sumA, sumB := sumText(loneSum(32, keyA, "a", 255)), sumText(loneSum(32, keyB, "b", 255))
	near := entries{keyA: "a", keyC: "c"}
	for _, c := range []struct {
		name   string
		m      entries
		lo, hi api.Key
		raw    []byte
		shown  []api.Entry
	}{
		{"1", entries{}, keyA, keyZ, []byte{0}, nil},
		{"2", chapterMap(), keyA, keyZ, pairText(a, b), []api.Entry{entry(keyA, "a"), entry(keyB, "b")}},
		{"3", chapterMap(), keyA, keyA, pairText(a, sumB), []api.Entry{entry(keyA, "a")}},
		{"4", chapterMap(), keyC, keyC, pairText(a, sumB), nil},
		{"5", chapterMap(), keyB, keyZ, pairText(sumA, b), []api.Entry{entry(keyB, "b")}},
		{"6", entries{keyA: "a"}, keyB, keyZ, a, nil},
		{"7", near, keyB, keyZ, pairText(sumText(near.sum(32, "0")), []byte{0}), nil},
	} {
		r := begun(t, "example "+c.name, 600, 32)
		r.proves(r.grown(c.m), c.lo, c.hi, c.raw)
		of(t, "example "+c.name, c.m, c.lo, c.hi).shows(c.raw, c.shown)
	}
	if raw := chapterMap().proof(32, keyA, keyZ); len(raw) != 73 {
		t.Errorf("example 2: %d bytes", len(raw))
	}
}

// Row 1: other bytes under the root of the empty tree.
func TestExampleEmpty(t *testing.T) {
	a := of(t, "example 1", entries{}, keyA, keyZ)
	for _, raw := range [][]byte{{0, 0}, {4}, {}, nil} {
		a.refuses(raw, api.ErrProof)
	}
}

// Rows 8 to 10: what Verify refuses.
func TestExamplesRefused(t *testing.T) {
	m := chapterMap()
	a, b := loneText(keyA, "a"), loneText(keyB, "b")
	all, high := of(t, "example 8", m, keyA, keyZ), of(t, "example 8", m, keyB, keyZ)
	onlyB := of(t, "example 8", entries{keyB: "b"}, keyA, keyZ)
	onlyB.refuses(pairText(noneText(), b), api.ErrProof)
	onlyB.shows(b, []api.Entry{entry(keyB, "b")})
	for seed := range 4 {
		all.refuses(sumText(sumOf(seed)), api.ErrProof)
	}
	all.refuses(sumText(m.root(32)), api.ErrProof)
	all.refuses(sumText(emptySum(32, 256)), api.ErrProof)
	high.refuses(pairText(sumText(emptySum(32, 255)), b), api.ErrDefault)

	all.promise = "example 9"
	all.refuses(loneText(keyA, strings.Repeat("a", 129)), api.ErrProof)
	all.refuses(pairText(b, a), api.ErrProof)
	all.refuses(pairText(b, nil), api.ErrProof)

	raw := pairText(a, b)
	for _, w := range []int{0, -1, 33, lowest, highest} {
		if l, e := span.Verify(w, m.root(32), keyA, keyZ, raw); len(l) != 0 || e != api.ErrArg {
			t.Errorf("example 10: the width %d: %s, %v", w, told(l), e)
		}
	}
	if l, e := span.Verify(32, m.root(32), keyB, keyA, raw); len(l) != 0 || e != api.ErrRange {
		t.Errorf("example 10: from B to A: %s, %v", told(l), e)
	}
	of(t, "example 10", entries{keyA: "a"}, keyA, keyZ).refuses(raw, api.ErrRoot)
}

// Row 11: at the width 1 nothing and a lone leaf under one root.
func TestExampleClash(t *testing.T) {
	root, found := emptySum(1, 256), 0
	for i := range 100 {
		k := api.Key(sumOf(i))
		if i < 40 {
			k = keyA
		}
		val := string(text(i, 3))
		if loneSum(1, k, val, 256) != root {
			continue
		}
		found++
		a := ask{t, "example 11", 1, root, keyA, keyZ}
		a.shows(noneText(), nil)
		a.shows(loneText(k, val), []api.Entry{entry(k, val)})
		x, y, ok := span.Clash(1, root, keyA, keyZ, noneText(), loneText(k, val))
		if !ok || bytes.Equal(x, y) || digest.Sum(x)[0] != digest.Sum(y)[0] {
			t.Errorf("example 11: %x %q: %x, %x, %t", k, val, x, y, ok)
		}
		a.clash(noneText(), loneText(k, val))
	}
	if found <= 30 {
		t.Errorf("example 11: %d leaves of 100 have the empty tree's root", found)
	}
}
