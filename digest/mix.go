package digest

import (
	"math/bits"

	"ledger/api"
)

const (
	blockSize   = 64
	blockWords  = 16
	stateWords  = 8
	rounds      = 64
	wordBytes   = 4
	padStart    = 128
	lengthBytes = 8
	lengthPlace = blockSize - lengthBytes
)

// firstState: the first 32 bits behind the point of the square roots of the first eight primes.
var firstState = [stateWords]uint32{
	0x6a09e667, 0xbb67ae85, 0x3c6ef372, 0xa54ff53a, 0x510e527f, 0x9b05688c, 0x1f83d9ab, 0x5be0cd19,
}

// roundConstants: the first 32 bits behind the point of the cube roots of the first 64 primes.
var roundConstants = [rounds]uint32{
	0x428a2f98, 0x71374491, 0xb5c0fbcf, 0xe9b5dba5, 0x3956c25b, 0x59f111f1, 0x923f82a4, 0xab1c5ed5,
	0xd807aa98, 0x12835b01, 0x243185be, 0x550c7dc3, 0x72be5d74, 0x80deb1fe, 0x9bdc06a7, 0xc19bf174,
	0xe49b69c1, 0xefbe4786, 0x0fc19dc6, 0x240ca1cc, 0x2de92c6f, 0x4a7484aa, 0x5cb0a9dc, 0x76f988da,
	0x983e5152, 0xa831c66d, 0xb00327c8, 0xbf597fc7, 0xc6e00bf3, 0xd5a79147, 0x06ca6351, 0x14292967,
	0x27b70a85, 0x2e1b2138, 0x4d2c6dfc, 0x53380d13, 0x650a7354, 0x766a0abb, 0x81c2c92e, 0x92722c85,
	0xa2bfe8a1, 0xa81a664b, 0xc24b8b70, 0xc76c51a3, 0xd192e819, 0xd6990624, 0xf40e3585, 0x106aa070,
	0x19a4c116, 0x1e376c08, 0x2748774c, 0x34b0bcb5, 0x391c0cb3, 0x4ed8aa4a, 0x5b9cca4f, 0x682e6ff3,
	0x748f82ee, 0x78a5636f, 0x84c87814, 0x8cc70208, 0x90befffa, 0xa4506ceb, 0xbef9a3f7, 0xc67178f2,
}

// mix tells the state behind one block.
func mix(state [stateWords]uint32, block [blockSize]byte) [stateWords]uint32 {
	w := schedule(block)
	a, b, c, d := state[0], state[1], state[2], state[3]
	e, f, g, h := state[4], state[5], state[6], state[7]
	for t := range rounds {
		one := h + high1(e) + pick(e, f, g) + roundConstants[t] + w[t]
		two := high0(a) + most(a, b, c)
		h, g, f, e, d, c, b, a = g, f, e, d+one, c, b, a, one+two
	}
	for i, word := range [stateWords]uint32{a, b, c, d, e, f, g, h} {
		state[i] += word
	}
	return state
}

// schedule tells the words of all rounds: the block's own first, the others out of those ahead of them.
func schedule(block [blockSize]byte) [rounds]uint32 {
	var w [rounds]uint32
	for t := range blockWords {
		at := wordBytes * t
		w[t] = uint32(block[at])<<24 | uint32(block[at+1])<<16 | uint32(block[at+2])<<8 | uint32(block[at+3])
	}
	for t := blockWords; t < rounds; t++ {
		w[t] = low1(w[t-2]) + w[t-7] + low0(w[t-15]) + w[t-16]
	}
	return w
}

// stateBytes lays a state out as a digest.
func stateBytes(state [stateWords]uint32) api.Digest {
	var d api.Digest
	for i, word := range state {
		at := wordBytes * i
		d[at], d[at+1], d[at+2], d[at+3] = byte(word>>24), byte(word>>16), byte(word>>8), byte(word)
	}
	return d
}

func turn(x uint32, n int) uint32 { return bits.RotateLeft32(x, -n) }

func low0(x uint32) uint32 { return turn(x, 7) ^ turn(x, 18) ^ x>>3 }

func low1(x uint32) uint32 { return turn(x, 17) ^ turn(x, 19) ^ x>>10 }

func high0(x uint32) uint32 { return turn(x, 2) ^ turn(x, 13) ^ turn(x, 22) }

func high1(x uint32) uint32 { return turn(x, 6) ^ turn(x, 11) ^ turn(x, 25) }

func pick(x, y, z uint32) uint32 { return x&y ^ ^x&z }

func most(x, y, z uint32) uint32 { return x&y ^ x&z ^ y&z }
