package witness

import (
	"ledger/api"
	"ledger/ledger"
)

// makeFrom is Make with its refusal as a number.
func makeFrom(l *ledger.Ledger, version int, keys []api.Key) ([]byte, api.Errno) {
	if l == nil {
		return nil, api.ErrArg
	}
	if err := l.Live(); err != nil {
		return nil, ledger.Code(err)
	}
	if _, e := rising(keys); e != api.OK {
		return nil, e
	}
	root, err := l.Root(version)
	if err != nil {
		return nil, ledger.Code(err)
	}
	info, err := l.Info()
	if err != nil {
		return nil, api.ErrCorrupt
	}
	if version == api.Newest {
		// Others may commit in between: by its number it is one version that all proofs are asked of.
		version, root = info.Last, info.Sum
	}
	raws, e := proofsOf(l, version, keys)
	if e != api.OK {
		return nil, e
	}
	raw, e := Gather(info.Width, root, keys, raws)
	if e != api.OK {
		return nil, api.ErrCorrupt
	}
	return raw, api.OK
}

// proofsOf tells a ledger's proofs for some keys.
func proofsOf(l *ledger.Ledger, version int, keys []api.Key) ([][]byte, api.Errno) {
	var raws [][]byte
	for _, k := range keys {
		raw, err := l.Prove(k[:], version)
		if err != nil {
			return nil, api.ErrCorrupt
		}
		raws = append(raws, raw)
	}
	return raws, api.OK
}
