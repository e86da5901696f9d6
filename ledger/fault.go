package ledger

import (
	"errors"
	"strconv"

	"ledger/api"
)

// What a Fault may hold: one for each refusal that is told as a value.
var (
	ErrArg      = errors.New("a number that may not be")
	ErrDown     = errors.New("the disk has no power")
	ErrStale    = errors.New("older than the last crash")
	ErrCorrupt  = errors.New("the disk is corrupt")
	ErrFull     = errors.New("no page is left")
	ErrForm     = errors.New("no batch")
	ErrMany     = errors.New("too many changes")
	ErrLong     = errors.New("a value too long")
	ErrDup      = errors.New("one key twice")
	ErrBlank    = errors.New("nothing is laid here")
	ErrTaken    = errors.New("there is something already")
	ErrRange    = errors.New("the low end lies above the high end")
	ErrVersion  = errors.New("no such version yet")
	ErrGone     = errors.New("a version below the first")
	ErrKey      = errors.New("not a key's bytes")
	ErrTxn      = errors.New("no such transaction")
	ErrConflict = errors.New("what was read has changed")
	ErrStream   = errors.New("no stream")
	ErrBase     = errors.New("the stream begins elsewhere")
	ErrMismatch = errors.New("another root than the stream says")
)

const (
	noVersion           = -1 // as At: the refusal is told without a version
	unknown   api.Errno = -1 // as a Code: none of the fixed errors
)

// fixed tells the error that stands for a number, nil if none does.
func fixed(e api.Errno) error {
	switch e {
	case api.ErrArg:
		return ErrArg
	case api.ErrDown:
		return ErrDown
	case api.ErrStale:
		return ErrStale
	case api.ErrCorrupt:
		return ErrCorrupt
	case api.ErrFull:
		return ErrFull
	case api.ErrForm:
		return ErrForm
	case api.ErrMany:
		return ErrMany
	case api.ErrLong:
		return ErrLong
	case api.ErrDup:
		return ErrDup
	case api.ErrBlank:
		return ErrBlank
	case api.ErrTaken:
		return ErrTaken
	case api.ErrRange:
		return ErrRange
	case api.ErrVersion:
		return ErrVersion
	case api.ErrGone:
		return ErrGone
	case api.ErrKey:
		return ErrKey
	case api.ErrTxn:
		return ErrTxn
	case api.ErrConflict:
		return ErrConflict
	case api.ErrStream:
		return ErrStream
	case api.ErrBase:
		return ErrBase
	case api.ErrMismatch:
		return ErrMismatch
	}
	return nil
}

// Place says which call was refused, and at which version.
type Place struct {
	Call string
	At   int
}

// Where tells the place in words.
func (p Place) Where() string {
	if p.At == noVersion {
		return p.Call
	}
	return p.Call + " at " + strconv.Itoa(p.At)
}

// Fault is what a refused call answers; it embeds its place.
type Fault struct {
	Place
	Why error
}

// Error tells the place and the reason.
func (f *Fault) Error() string {
	reason := "no reason"
	if f.Why != nil {
		reason = f.Why.Error()
	}
	return f.Where() + ": " + reason
}

// Unwrap tells the reason.
func (f *Fault) Unwrap() error { return f.Why }

// Wrap makes the error of a refused call; OK makes none.
func Wrap(call string, at int, e api.Errno) error {
	if e == api.OK {
		return nil
	}
	why := fixed(e)
	if why == nil {
		why = ErrCorrupt
	}
	return &Fault{Place{call, at}, why}
}

// Code tells the number of the reason that an error holds, of several the lowest one.
func Code(err error) api.Errno {
	if err == nil {
		return api.OK
	}
	for e := api.ErrArg; e <= api.ErrMismatch; e++ {
		if why := fixed(e); why != nil && errors.Is(err, why) {
			return e
		}
	}
	return unknown
}
