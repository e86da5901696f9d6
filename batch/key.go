package batch

import (
	"bytes"
	"math/bits"

	"ledger/api"
)

// byteBits is how many bits of a key's path one byte holds.
const byteBits = 8

// Bit tells a bit of a key.
func Bit(k api.Key, i int) int {
	if i < 0 || i >= api.Height {
		return 0
	}
	return int(k[i/byteBits]>>(byteBits-1-i%byteBits)) & 1
}

// Common tells how many first bits two keys share.
func Common(a, b api.Key) int {
	for i := range a {
		if a[i] != b[i] {
			return byteBits*i + bits.LeadingZeros8(a[i]^b[i])
		}
	}
	return api.Height
}

// Compare tells which of two keys is the lower one.
func Compare(a, b api.Key) int {
	return bytes.Compare(a[:], b[:])
}
