package ledger

import (
	"ledger/api"
	"ledger/batch"
	"ledger/index"
	"ledger/tree"
)

// Commit makes the next version.
func (l *Ledger) Commit(raw []byte) (int, error) {
	l.lock.Lock()
	defer l.lock.Unlock()
	version := l.newest.Version + 1
	if e := l.commit(raw); e != api.OK {
		return 0, Wrap("commit", version, e)
	}
	return version, nil
}

// Preview tells the root that a Commit would make, and how many pages it would use; nothing is kept of it.
func (l *Ledger) Preview(raw []byte) (api.Digest, int, error) {
	l.lock.Lock()
	defer l.lock.Unlock()
	defer l.forget()
	next, pages, e := l.draft(raw)
	return next.Sum, pages, Wrap("preview", l.newest.Version+1, e)
}

// commit stages the next version, adds its record and publishes all of it.
func (l *Ledger) commit(raw []byte) api.Errno {
	defer l.forget()
	next, _, e := l.draft(raw)
	if e != api.OK {
		return e
	}
	head, e := index.Add(l.store, l.store.Super().Head, next)
	if e != api.OK {
		return e
	}
	if e := l.store.Flush(head); e != api.OK {
		return e
	}
	l.newest = next
	return api.OK
}

// forget gives up what is staged and not published. Without power nothing can be given up, and need not be: no call comes to it any more.
func (l *Ledger) forget() { l.store.Rewind(l.store.Super().Mark) }

// draft stages the tree of the next version; it tells the version's record, without its links, and how many pages the version uses.
func (l *Ledger) draft(raw []byte) (api.Record, int, api.Errno) {
	if e := l.store.Live(); e != api.OK {
		return api.Record{}, 0, e
	}
	changes, _, e := batch.Parse(raw)
	if e != api.OK {
		return api.Record{}, 0, e
	}
	pages, e := l.price(changes)
	if e != api.OK {
		return api.Record{}, 0, e
	}
	next, e := l.grow(changes)
	if e != api.OK {
		return api.Record{}, 0, e
	}
	return next, pages, api.OK
}

// price tells how many pages a version with these changes uses, its record among them, if the disk has so many left.
func (l *Ledger) price(changes []api.Change) (int, api.Errno) {
	super := l.store.Super()
	if l.newest.Version == api.MaxVersion || super.Generation == api.MaxGeneration {
		return 0, api.ErrFull
	}
	cost, e := tree.Cost(l.store, l.newest.Root, changes)
	if e != api.OK {
		return 0, e
	}
	pages := cost + 1
	if super.Mark+pages > l.store.Pages() {
		return 0, api.ErrFull
	}
	return pages, api.OK
}

// grow stages the tree behind these changes, and tells what its version's record says of it.
func (l *Ledger) grow(changes []api.Change) (api.Record, api.Errno) {
	root, e := tree.Update(l.store, l.newest.Root, changes)
	if e != api.OK {
		return api.Record{}, e
	}
	sum, e := tree.Sum(l.store, root)
	if e != api.OK {
		return api.Record{}, e
	}
	keys, e := tree.Count(l.store, root)
	if e != api.OK {
		return api.Record{}, e
	}
	next := api.Record{Version: l.newest.Version + 1, First: l.newest.First, Root: root, Count: keys, Sum: sum}
	return next, api.OK
}
