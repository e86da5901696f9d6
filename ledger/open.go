package ledger

import (
	"ledger/api"
	"ledger/disk"
	"ledger/file"
	"ledger/index"
	"ledger/store"
)

// Create lays an empty ledger onto a blank disk.
func Create(d *disk.Disk, width, room int) (*Ledger, error) {
	l, e := create(d, width, room)
	return l, Wrap("create", noVersion, e)
}

// Open opens the ledger on a disk.
func Open(d *disk.Disk, room int) (*Ledger, error) {
	l, e := open(d, room)
	return l, Wrap("open", noVersion, e)
}

// create is Create with its refusal as a number.
func create(d *disk.Disk, width, room int) (*Ledger, api.Errno) {
	if e := powered(d); e != api.OK {
		return nil, e
	}
	// A room that may not be must be told ahead of Format, which lays something; a width that may not be Format refuses with the same error.
	if !mayBeRoom(room) {
		return nil, api.ErrArg
	}
	if e := file.Format(d, width); e != api.OK {
		return nil, e
	}
	return open(d, room)
}

// open is Open with its refusal as a number.
func open(d *disk.Disk, room int) (*Ledger, api.Errno) {
	if e := powered(d); e != api.OK {
		return nil, e
	}
	if !mayBeRoom(room) {
		return nil, api.ErrArg
	}
	f, e := file.Open(d)
	if e != api.OK {
		return nil, e
	}
	s, e := store.New(f, room)
	if e != api.OK {
		return nil, e
	}
	newest, e := newestOf(s)
	if e != api.OK {
		return nil, e
	}
	return &Ledger{store: s, newest: newest}, api.OK
}

// powered tells whether there is a disk, and power.
func powered(d *disk.Disk) api.Errno {
	if d == nil {
		return api.ErrArg
	}
	if !d.Power() {
		return api.ErrDown
	}
	return api.OK
}

// mayBeRoom tells whether a ledger's cache may have this room.
func mayBeRoom(room int) bool { return room >= 1 && room <= api.MaxRoom }

// newestOf tells the record of the newest version in a store, of a fresh one that of the empty map.
func newestOf(s *store.Store) (api.Record, api.Errno) {
	head := s.Super().Head
	_, last, e := index.Bounds(s, head)
	if e != api.OK {
		return api.Record{}, e
	}
	r, _, e := index.Find(s, head, last)
	return r, e
}
