package node

import (
	"bytes"

	"ledger/api"
)

// firstPage is the lowest number of a page that may hold a node: the two below it are slots.
const firstPage = 2

// The places of a branch's fields in its load.
const (
	numberSize = 4
	keySize    = len(api.Key{})
	sumSize    = len(api.Digest{})
	sumsAt     = 4 * numberSize
	branchSize = sumsAt + 2*sumSize
)

// form is what a node is inside: a leaf or a branch, with the fields of its kind alone.
type form interface {
	// stands tells whether the document lets the fields be.
	stands() bool
	// load tells the bytes of a form that stands.
	load() []byte
}

// leaf holds a key and its value. The value is whoever's it was: what is answered is a copy.
type leaf struct {
	key api.Key
	val []byte
}

// branch holds what it states of its two children.
type branch struct {
	left, right child
}

// child is one side of a branch; all of it is zero where there is none.
type child struct {
	page, count int
	sum         api.Digest
}

// formOf tells the form of a node: nil where its kind is none, or a field is set that its kind has not.
func formOf(n api.Node) form {
	left := child{n.Left, n.LeftCount, n.LeftSum}
	right := child{n.Right, n.RightCount, n.RightSum}
	none := child{}
	switch {
	case n.Kind == api.KindLeaf && left == none && right == none:
		return leaf{n.Key, n.Val}
	case n.Kind == api.KindBranch && n.Key == api.Key{} && len(n.Val) == 0:
		return branch{left, right}
	}
	return nil
}

// nodeOf tells the node of a form, the way back of formOf.
func nodeOf(f form) api.Node {
	switch x := f.(type) {
	case leaf:
		return api.Node{Kind: api.KindLeaf, Key: x.key, Val: bytes.Clone(x.val)}
	case branch:
		l, r := x.left, x.right
		return api.Node{
			Kind: api.KindBranch, Left: l.page, Right: r.page,
			LeftCount: l.count, RightCount: r.count, LeftSum: l.sum, RightSum: r.sum,
		}
	}
	return api.Node{}
}

// readForm tells the form that a load spells: nil where its kind is none, or its length is none of its kind's.
func readForm(kind int, load []byte) form {
	switch {
	case kind == api.KindLeaf && len(load) >= keySize:
		return leaf{api.Key(load[:keySize]), load[keySize:]}
	case kind == api.KindBranch && len(load) == branchSize:
		return readBranch(load)
	}
	return nil
}

// readBranch tells the branch that a load of a branch's length spells.
func readBranch(load []byte) branch {
	var numbers [4]int
	for i := range numbers {
		numbers[i] = readNumber(load[i*numberSize:])
	}
	sums := load[sumsAt:]
	return branch{
		left:  child{numbers[0], numbers[2], api.Digest(sums[:sumSize])},
		right: child{numbers[1], numbers[3], api.Digest(sums[sumSize:])},
	}
}

func (l leaf) stands() bool { return len(l.val) <= api.MaxVal }

func (l leaf) load() []byte {
	return append(bytes.Clone(l.key[:]), l.val...)
}

func (b branch) stands() bool {
	// Each count is bounded ahead of the sum: counts out of anywhere might go beyond the greatest int together.
	if !b.left.stands() || !b.right.stands() || b.left.page == b.right.page {
		return false
	}
	keys := b.left.count + b.right.count
	return keys >= 2 && keys <= api.MaxPages
}

func (b branch) load() []byte {
	var raw []byte
	for _, n := range [...]int{b.left.page, b.right.page, b.left.count, b.right.count} {
		raw = appendNumber(raw, n)
	}
	return append(append(raw, b.left.sum[:]...), b.right.sum[:]...)
}

// stands tells whether a branch may state this of one side, whatever it states of the other.
func (c child) stands() bool {
	if c.page == 0 {
		return c == child{}
	}
	return c.page >= firstPage && c.page < api.MaxPages && c.count >= 1 && c.count <= api.MaxPages
}

// appendNumber lays a page's number or a count behind raw, the lowest byte first.
func appendNumber(raw []byte, n int) []byte {
	return append(raw, byte(n), byte(n>>8), byte(n>>16), byte(n>>24))
}

// readNumber reads the page's number or count at the beginning of raw.
func readNumber(raw []byte) int {
	return int(raw[0]) | int(raw[1])<<8 | int(raw[2])<<16 | int(raw[3])<<24
}
