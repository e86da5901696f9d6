package frame_test

import (
	"testing"

	"ledger/api"
	"ledger/frame"
)

// abc is what the first row of the chapter's examples answers, as it is written there.
func abc() []byte {
	return append(row(252, 1, 3, 2, 0, 0, 0, 97, 98, 99), 149, 73, 117, 75)
}

// super27 is the superblock of the chapter's examples, as it is written there.
func super27() []byte {
	b := row(16, 76, 68, 71, 49, 27)
	b = append(b, row(8, 2)...)
	b = append(b, row(36, 16)...)
	b = append(b, 152, 41, 106, 92)
	return append(b, make([]byte, 192)...)
}

func TestPackOfExamples(t *testing.T) {
	long := make([]byte, 247)
	got, e := frame.Pack(1, 2, []byte("abc"))
	wantBytes(t, `P5.1: Pack(1, 2, "abc")`, got, e, abc())
	got, e = frame.Pack(3, 4095, nil)
	wantBytes(t, "P5.1: Pack(3, 4095, nil)", got, e, append(row(252, 3, 0, 255, 15), 244, 81, 252, 239))
	got, e = frame.Pack(0, 1, long)
	wantNoBytes(t, "P5.1: Pack(0, 1, 247 bytes)", got, e, api.ErrKind)
	got, e = frame.Pack(2, 1, long)
	wantNoBytes(t, "P5.1: Pack(2, 1, 247 bytes)", got, e, api.ErrPlace)
	got, e = frame.Pack(2, 4096, nil)
	wantNoBytes(t, "P5.1: Pack(2, 4096, nil)", got, e, api.ErrPlace)
	got, e = frame.Pack(2, 2, long)
	wantNoBytes(t, "P5.1: Pack(2, 2, 247 bytes)", got, e, api.ErrLoad)
}

func TestUnpackOfExamples(t *testing.T) {
	wantLoad(t, "P5.2: the first row", 2, abc(), 1, []byte("abc"))
	wantNoLoad(t, "P5.2: the first row", 3, abc(), api.ErrPlace)
	wantNoLoad(t, "P5.2: another last byte", 3, with(abc(), 255, 74), api.ErrSum)
	wantNoLoad(t, "P5.2: nil", 1, nil, api.ErrPlace)
	wantNoLoad(t, "P5.2: 256 zeros", 2, make([]byte, 256), api.ErrSum)
}

func TestSuperOfExamples(t *testing.T) {
	s := api.Super{Width: 27, Generation: 0, Mark: 2, Head: 0, Pages: 16}
	got, e := frame.PackSuper(s)
	wantBytes(t, "P5.3: the example", got, e, super27())
	read, e := frame.UnpackSuper(super27())
	wantSuper(t, "P5.4: the example", read, e, s, api.OK)
	s.Head = 2
	got, e = frame.PackSuper(s)
	wantNoBytes(t, "P5.3: a head that is not below the mark", got, e, api.ErrFrame)
}

func TestChooseOfExamples(t *testing.T) {
	zeros := make([]byte, 256)
	at := func(generation, mark int) api.Super {
		return api.Super{Width: 5, Generation: generation, Mark: mark, Pages: 20}
	}
	cases := []struct {
		name string
		a, b []byte
		want api.Super
		e    api.Errno
	}{
		{"256 zeros twice", zeros, zeros, api.Super{}, api.ErrBlank},
		{"the superblock, 256 zeros", super27(), zeros, api.Super{}, api.ErrBlank},
		{"256 zeros, the superblock", zeros, super27(), api.Super{}, api.ErrCorrupt},
		{"generations 4 and 3", block(at(4, 9)), block(at(3, 7)), at(4, 9), api.OK},
		{"generations 3 and 4", block(at(3, 9)), block(at(4, 9)), api.Super{}, api.ErrCorrupt},
		{"generations 4 and 1", block(at(4, 9)), block(at(1, 9)), api.Super{}, api.ErrCorrupt},
	}
	for _, c := range cases {
		got, e := frame.Choose(c.a, c.b)
		wantSuper(t, "P5.5: "+c.name, got, e, c.want, c.e)
	}
}

// The pages of DOC.md's section 'Examples of the whole'.
func TestPagesOfTheWhole(t *testing.T) {
	key := func(first byte) []byte {
		k := make([]byte, 32)
		for i := range k {
			k[i] = 7
		}
		k[0] = first
		return k
	}
	got, e := frame.Pack(api.KindLeaf, 2, append(key(7), 97))
	wantBytes(t, "P5.1: K's leaf", got[252:], e, []byte{64, 129, 159, 165})
	got, e = frame.Pack(api.KindLeaf, 4, append(key(135), 98, 99))
	wantBytes(t, "P5.1: Q's leaf", got[252:], e, []byte{41, 87, 75, 193})

	record := row(56, 1, 0, 0, 0, 0, 0, 0, 0, 0, 0, 0, 0, 0, 0, 0, 0, 2, 0, 0, 0, 1, 0, 0, 0, 213, 245, 196, 205)
	got, e = frame.Pack(api.KindRecord, 3, record)
	wantBytes(t, "P5.1: the record's head", got[:6], e, []byte{3, 56, 3, 0, 0, 0})
	wantBytes(t, "P5.1: the record", got[252:], e, []byte{201, 179, 8, 32})

	branch := row(80, 2, 0, 0, 0, 4, 0, 0, 0, 1, 0, 0, 0, 1, 0, 0, 0, 16, 218, 130, 142)
	copy(branch[48:], []byte{134, 166, 168, 123})
	got, e = frame.Pack(api.KindBranch, 5, branch)
	wantBytes(t, "P5.1: the branch", got[252:], e, []byte{25, 186, 178, 119})

	got, e = frame.PackSuper(api.Super{Width: 4, Generation: 2, Mark: 4, Head: 3, Pages: 16})
	want := row(60, 76, 68, 71, 49, 4, 0, 0, 0, 2, 0, 0, 0, 0, 0, 0, 0, 4, 0, 0, 0, 3, 0, 0, 0, 16)
	wantBytes(t, "P5.3: generation 2", got, e, row(256, append(want, 234, 46, 220, 231)...))
}
