// Package digest: SHA-256, whole and piece by piece, and digests cut to a width: see doc/01-digest.md.
package digest

import "ledger/api"

// Hasher takes a message piece by piece.
type Hasher struct {
	state [stateWords]uint32
	// Zero behind what is filled, so that no text taken earlier is kept and the padding's zeros are there already.
	block [blockSize]byte
	taken uint64
}

// Sum tells the digest of a message.
func Sum(msg []byte) api.Digest {
	h := New()
	h.Write(msg)
	return h.Sum()
}

// Cut keeps the first width bytes of a digest; the others are zero.
func Cut(d api.Digest, width int) api.Digest {
	var cut api.Digest
	kept := min(max(width, 0), len(d))
	copy(cut[:], d[:kept])
	return cut
}

// New begins a message.
func New() *Hasher {
	return &Hasher{state: firstState}
}

// Write takes the next piece.
func (h *Hasher) Write(p []byte) {
	for len(p) > 0 {
		n := copy(h.block[h.filled():], p)
		p = p[n:]
		h.taken += uint64(n)
		if h.filled() == 0 {
			h.mixBlock()
		}
	}
}

// Sum tells the digest of all that was written; more may be written behind it.
func (h *Hasher) Sum() api.Digest {
	// The padding goes into a copy: h itself has not taken it.
	padded := *h
	padded.pad()
	return stateBytes(padded.state)
}

// Fork makes a second hasher that has taken the same pieces.
func (h *Hasher) Fork() *Hasher {
	other := *h
	return &other
}

// Reset begins anew.
func (h *Hasher) Reset() {
	*h = Hasher{state: firstState}
}

// filled tells how many bytes of the block are there; a block that has just become full counts as none.
func (h *Hasher) filled() int {
	return int(h.taken % blockSize)
}

// mixBlock mixes the block into the state and empties it.
func (h *Hasher) mixBlock() {
	h.state = mix(h.state, h.block)
	h.block = [blockSize]byte{}
}

// pad lays the text's end behind it: the byte 128, zeros and the length in bits.
func (h *Hasher) pad() {
	at := h.filled()
	h.block[at] = padStart
	if at >= lengthPlace {
		// No room is left for the length: it takes a block of its own.
		h.mixBlock()
	}
	length := h.taken * 8
	for i := range lengthBytes {
		h.block[blockSize-1-i] = byte(length >> (8 * i))
	}
	h.mixBlock()
}
