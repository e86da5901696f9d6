package span

import "ledger/api"

// The first byte of a text says which kind it is.
const (
	noneMark = iota
	sumMark
	loneMark
	pairMark
)

// text is what a proof says of a place: none, sum, lone or pair.
type text interface {
	mark() byte
}

// none says that the place's digest is the empty subtree's.
type none struct{}

// sum says a digest, and nothing of what lies beneath it.
type sum api.Digest

// lone says that one key is all that gives the place its digest.
type lone api.Entry

// pair says what there is in both halves.
type pair struct{ left, right part }

// part is the text of a place with the place's digest.
type part struct {
	text text
	sum  api.Digest
}

func (none) mark() byte { return noneMark }
func (sum) mark() byte  { return sumMark }
func (lone) mark() byte { return loneMark }
func (pair) mark() byte { return pairMark }

// joined tells the one text of a place with two keys or more: a pair just where nothing shorter says the same.
func joined(left, right part) text {
	switch left.text.(type) {
	case none:
		switch right.text.(type) {
		case none, lone:
			return right.text
		}
	case lone:
		switch right.text.(type) {
		case none:
			return left.text
		}
	}
	return pair{left, right}
}

// laidOut tells the bytes of a text.
func laidOut(whole text) []byte {
	var raw []byte
	var lay func(t text)
	lay = func(t text) {
		raw = append(raw, t.mark())
		switch t := t.(type) {
		case sum:
			raw = append(raw, t[:]...)
		case lone:
			raw = append(raw, t.Key[:]...)
			raw = append(raw, byte(len(t.Val)), byte(len(t.Val)>>8))
			raw = append(raw, t.Val...)
		case pair:
			lay(t.left.text)
			lay(t.right.text)
		}
	}
	lay(whole)
	return raw
}
