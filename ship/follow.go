package ship

import (
	"bytes"
	"errors"
	"slices"

	"ledger/api"
	"ledger/ledger"
)

// follow is Follow with its refusal as a number, and the version at which it is told.
func follow(l *ledger.Ledger, stream []byte) (int, int, api.Errno) {
	if l == nil {
		return 0, noVersion, api.ErrArg
	}
	info, err := l.Info()
	if err != nil {
		return 0, noVersion, ledger.Code(err)
	}
	c, e := unload(stream)
	if e != api.OK {
		return 0, noVersion, e
	}
	if c.Width != info.Width || info.Last < c.From || info.Last > c.To {
		return 0, noVersion, api.ErrBase
	}
	own, e := entriesOf(l, info.Last)
	if e != api.OK {
		return 0, noVersion, e
	}
	return c.goOn(l, info.Last, own)
}

// goOn commits what the stream says behind the ledger's newest version, if both say the same map for that one.
func (c cargo) goOn(l *ledger.Ledger, newest int, own []api.Entry) (int, int, api.Errno) {
	r := newRooter(c.Width)
	for v := range c.versions() {
		switch {
		case v.number == newest && !alike(v.held.entries(nil), own):
			return 0, noVersion, api.ErrBase
		case v.number > newest:
			if at, e := r.commit(l, v); e != api.OK {
				return 0, at, e
			}
		}
	}
	return c.To, noVersion, api.OK
}

// commit makes the next version, if it holds; if not, it tells at which version it was refused, and why.
func (r *rooter) commit(l *ledger.Ledger, v version) (int, api.Errno) {
	if r.root(v.held) != v.sum {
		return v.number, api.ErrMismatch
	}
	_, err := l.Commit(v.raw)
	var fault *ledger.Fault
	if errors.As(err, &fault) {
		return fault.At, ledger.Code(err)
	}
	return noVersion, api.OK
}

// alike tells whether two lists have the same entries. Two maps are told apart so, never by their roots: at a small width unlike maps often have one root.
func alike(a, b []api.Entry) bool {
	return slices.EqualFunc(a, b, func(x, y api.Entry) bool {
		return x.Key == y.Key && bytes.Equal(x.Val, y.Val)
	})
}
