package sha

import (
	"banyan/api"
	"banyan/num"
)

const (
	rounds    = 64
	firstSize = 16 // numbers that a block gives itself
	wordSize  = 4
)

// numbers is the state.
type numbers [8]uint32

// start is the state ahead of all bytes: Frac of the first eight primes, k 2, written out so that no hash waits for roots.
func start() numbers {
	return numbers{
		0x6a09e667, 0xbb67ae85, 0x3c6ef372, 0xa54ff53a, 0x510e527f, 0x9b05688c, 0x1f83d9ab, 0x5be0cd19,
	}
}

// roundNumbers are Frac of the first 64 primes, k 3, written out for the same cause.
var roundNumbers = [rounds]uint32{
	0x428a2f98, 0x71374491, 0xb5c0fbcf, 0xe9b5dba5, 0x3956c25b, 0x59f111f1, 0x923f82a4, 0xab1c5ed5,
	0xd807aa98, 0x12835b01, 0x243185be, 0x550c7dc3, 0x72be5d74, 0x80deb1fe, 0x9bdc06a7, 0xc19bf174,
	0xe49b69c1, 0xefbe4786, 0x0fc19dc6, 0x240ca1cc, 0x2de92c6f, 0x4a7484aa, 0x5cb0a9dc, 0x76f988da,
	0x983e5152, 0xa831c66d, 0xb00327c8, 0xbf597fc7, 0xc6e00bf3, 0xd5a79147, 0x06ca6351, 0x14292967,
	0x27b70a85, 0x2e1b2138, 0x4d2c6dfc, 0x53380d13, 0x650a7354, 0x766a0abb, 0x81c2c92e, 0x92722c85,
	0xa2bfe8a1, 0xa81a664b, 0xc24b8b70, 0xc76c51a3, 0xd192e819, 0xd6990624, 0xf40e3585, 0x106aa070,
	0x19a4c116, 0x1e376c08, 0x2748774c, 0x34b0bcb5, 0x391c0cb3, 0x4ed8aa4a, 0x5b9cca4f, 0x682e6ff3,
	0x748f82ee, 0x78a5636f, 0x84c87814, 0x8cc70208, 0x90befffa, 0xa4506ceb, 0xbef9a3f7, 0xc67178f2,
}

// mixed is the state behind one block more.
func mixed(state numbers, block [blockSize]byte) numbers {
	w := spread(block)
	a, b, c, d, e, f, g, h := state[0], state[1], state[2], state[3], state[4], state[5], state[6], state[7]
	for i := range w {
		t1 := h + turns(e, 6, 11, 25) + chosen(e, f, g) + roundNumbers[i] + w[i]
		t2 := turns(a, 2, 13, 22) + most(a, b, c)
		h, g, f, e, d, c, b, a = g, f, e, d+t1, c, b, a, t1+t2
	}
	for i, x := range (numbers{a, b, c, d, e, f, g, h}) {
		state[i] += x
	}
	return state
}

// spread is a block as numbers, one for each round.
func spread(block [blockSize]byte) [rounds]uint32 {
	var w [rounds]uint32
	for i, c := range block {
		w[i/wordSize] = w[i/wordSize]<<byteBits | uint32(c)
	}
	for i := firstSize; i < rounds; i++ {
		s0 := num.Turn(w[i-15], -7) ^ num.Turn(w[i-15], -18) ^ w[i-15]>>3
		s1 := num.Turn(w[i-2], -17) ^ num.Turn(w[i-2], -19) ^ w[i-2]>>10
		w[i] = w[i-16] + s0 + w[i-7] + s1
	}
	return w
}

// turns is x, turned towards the lower bits by three counts, together bit by bit.
func turns(x uint32, i, j, k int) uint32 {
	return num.Turn(x, -i) ^ num.Turn(x, -j) ^ num.Turn(x, -k)
}

// chosen has x's bits where by has one, else y's.
func chosen(by, x, y uint32) uint32 {
	return by&x | ^by&y
}

// most has the bits that at least two of three have.
func most(x, y, z uint32) uint32 {
	return x&y | x&z | y&z
}

// hash is the state as bytes, each number's highest first.
func (s numbers) hash() api.Hash {
	var x api.Hash
	for i := range x {
		x[i] = byte(s[i/wordSize] >> (byteBits * (wordSize - 1 - i%wordSize)))
	}
	return x
}
