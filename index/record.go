package index

import "ledger/api"

// firstPage is the lowest number that a page may have: the ones below it are the superblocks' slots.
const firstPage = 2

// The places in a record's load.
const (
	numberSize = 4
	sumAt      = 6 * numberSize
	loadSize   = sumAt + len(api.Digest{})
)

// Encode lays a record out as a page's load.
func Encode(r api.Record) ([]byte, api.Errno) {
	if !right(r) {
		return nil, api.ErrRecord
	}
	load := make([]byte, 0, loadSize)
	for _, n := range [...]int{r.Version, r.First, r.Prev, r.Skip, r.Root, r.Count} {
		load = append(load, byte(n), byte(n>>8), byte(n>>16), byte(n>>24))
	}
	return append(load, r.Sum[:]...), api.OK
}

// Decode reads a record's load.
func Decode(load []byte) (api.Record, api.Errno) {
	if len(load) != loadSize {
		return api.Record{}, api.ErrRecord
	}
	var n [sumAt / numberSize]int
	for i := range n {
		n[i] = readNumber(load[i*numberSize:])
	}
	r := api.Record{
		Version: n[0], First: n[1], Prev: n[2], Skip: n[3], Root: n[4], Count: n[5],
		Sum: api.Digest(load[sumAt:]),
	}
	if !right(r) {
		return api.Record{}, api.ErrRecord
	}
	return r, api.OK
}

// readNumber reads the number at the beginning of raw, its lowest byte first.
func readNumber(raw []byte) int {
	return int(raw[0]) | int(raw[1])<<8 | int(raw[2])<<16 | int(raw[3])<<24
}

// right tells whether a record is right by its form.
func right(r api.Record) bool {
	return versionFits(r) && (r.Root == 0 || mayBePage(r.Root)) && countFits(r) && linksFit(r)
}

// versionFits tells whether a record may have this Version and this First.
func versionFits(r api.Record) bool {
	return r.First >= 0 && r.Version >= max(r.First, 1) && r.Version <= api.MaxVersion
}

// countFits tells whether a record may have this Count beside its Root.
func countFits(r api.Record) bool {
	if r.Root == 0 {
		return r.Count == 0
	}
	return r.Count >= 1 && r.Count <= api.MaxPages
}

// linksFit tells whether a record of its number may have this Prev and this Skip.
func linksFit(r api.Record) bool {
	i := numberOf(r)
	if i == 1 {
		return r.Prev == 0 && r.Skip == 0
	}
	if !mayBePage(r.Prev) {
		return false
	}
	switch skipped(i) {
	case 0:
		return r.Skip == 0
	case i - 1:
		return r.Skip == r.Prev
	}
	return r.Skip >= firstPage && r.Skip < r.Prev
}

// mayBePage tells whether some store may have a page of that number.
func mayBePage(page int) bool { return page >= firstPage && page < api.MaxPages }

// numberOf tells how many records there are up to one, itself among them.
func numberOf(r api.Record) int { return number(r.Version, r.First) }

// number tells the number of a version's record: where First is 0 that version has none.
func number(version, first int) int {
	if first == 0 {
		return version
	}
	return version - first + 1
}

// skipped tells the number to which the Skip of another one leads: the lowest of its binary digits that is 1 made 0.
func skipped(i int) int { return i & (i - 1) }
