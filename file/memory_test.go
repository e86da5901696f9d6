package file_test

import (
	"bytes"
	"slices"
	"testing"

	"ledger/api"
)

// scribble writes over all bytes of b and of the room behind it.
func scribble(b []byte) {
	b = b[:cap(b)]
	for i := range b {
		b[i] ^= 0xFF
	}
}

// P6.5, R5: a load is neither changed nor kept, nor is the room behind it.
func TestLoadIsNotKept(t *testing.T) {
	for _, n := range []int{0, 1, 3, 100, 245, 246} {
		d, f := made(t, 5, 4)
		whole := slices.Concat(text(n, n), []byte("spare room"))
		was := bytes.Clone(whole)
		wantAppend(t, f, 2, whole[:n], 2)
		if !bytes.Equal(whole, was) {
			t.Errorf("P6.5: a load of %d bytes was changed", n)
		}
		scribble(whole)
		wantRead(t, f, 2, 2, text(n, n))
		wantErr(t, "Publish", f.Publish(2), api.OK)
		wantPage(t, "P6.5", d, 2, page(2, 2, text(n, n)))
	}
}

// R5: a refused load is not changed either.
func TestRefusedLoadIsNotChanged(t *testing.T) {
	_, f := made(t, 5, 4)
	load := text(1, 247)
	wantNoAppend(t, f, 3, load, api.ErrLoad)
	if !bytes.Equal(load, text(1, 247)) {
		t.Errorf("P6.5: a refused load was changed")
	}
}

// P6.6, R5: an answer is new memory, its spare room too.
func TestAnswersAreNotShared(t *testing.T) {
	for _, n := range []int{0, 1, 3, 100, 246} {
		d, f := made(t, 5, 4)
		wantAppend(t, f, 2, text(n, n), 2)
		wantAppend(t, f, 3, text(n+1, 9), 3)
		for range 2 {
			_, first, _ := f.Read(2)
			_, second, _ := f.Read(2)
			scribble(first)
			_ = append(first, text(5, 500)...)
			if !bytes.Equal(second, text(n, n)) {
				t.Errorf("P6.6: two answers share memory")
			}
			wantRead(t, f, 2, 2, text(n, n))
			wantRead(t, f, 3, 3, text(n+1, 9))
			wantErr(t, "Sync", d.Sync(), api.OK)
			wantPage(t, "P6.6", d, 2, page(2, 2, text(n, n)))
		}
	}
}

// R5: what Super told does not change with the File, nor the File with it.
func TestSuperIsACopy(t *testing.T) {
	_, f := made(t, 5, 4)
	told := f.Super()
	wantErr(t, "Publish", f.Publish(0), api.OK)
	if told != super(4, 1, 2, 0, 5) {
		t.Errorf("what Super told has changed: %+v", told)
	}
	told.Mark = 9
	wantKept(t, "Super", f, super(4, 2, 2, 0, 5), 2)
}

// R1: nil and empty loads are the same.
func TestNilAndEmptyLoads(t *testing.T) {
	d, f := made(t, 5, 4)
	wantAppend(t, f, 1, nil, 2)
	f.Forget()
	wantErr(t, "Sync", d.Sync(), api.OK)
	was := d.Image()
	wantAppend(t, f, 1, []byte{}, 2)
	wantErr(t, "Sync", d.Sync(), api.OK)
	if !bytes.Equal(d.Image(), was) {
		t.Errorf("P6.5: nil and no bytes are laid down unlike")
	}
}
