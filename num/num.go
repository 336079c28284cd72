// Package num is layer 1, numbers as bits and bytes: see shared/doc/01-num.md.
package num

import "banyan/api"

const (
	byteBits = 8
	wordBits = 32
	maxSize  = 8     // bytes of a uint64
	maxBits  = 63    // bits of an int that isn't below 0
	maxFrac  = 65535 // the greatest number whose root is told
)

// Turn is a number's bits, moved around.
func Turn(x uint32, n int) uint32 {
	// The conversion keeps n's rest by 32, whatever its sign: 32 goes into what it adds to an n below 0.
	up := uint(n) % wordBits
	return x<<up | x>>(wordBits-up)
}

// Put is a number as bytes, the highest first.
func Put(x uint64, size int) ([]byte, api.Errno) {
	if size < 0 || size > maxSize || x>>(byteBits*size) != 0 {
		return nil, api.ErrArg
	}
	b := make([]byte, size)
	for i := range b {
		b[i] = byte(x >> (byteBits * (size - 1 - i)))
	}
	return b, api.OK
}

// Get is bytes' number.
func Get(b []byte) (uint64, api.Errno) {
	if len(b) > maxSize {
		return 0, api.ErrArg
	}
	var x uint64
	for _, c := range b {
		x = x<<byteBits | uint64(c)
	}
	return x, api.OK
}

// Narrow is a number as one of fewer bits.
func Narrow(x int, bits int) (uint64, api.Errno) {
	if bits < 0 || bits > maxBits || x < 0 || uint64(x)>>bits != 0 {
		return 0, api.ErrArg
	}
	return uint64(x), api.OK
}

// Top is the place of the highest bit.
func Top(x uint64) int {
	place := -1
	for ; x != 0; x >>= 1 {
		place++
	}
	return place
}

// Frac is the beginning of what is behind the whole part of a root.
func Frac(p uint32, k int) (uint32, api.Errno) {
	if k != 2 && k != 3 || p < 1 || p > maxFrac {
		return 0, api.ErrArg
	}
	// The k-th root of p, times 2^32, is the k-th root of p times 2^(32 k): of whole numbers alone.
	var goal wide
	goal[k] = p
	// A conversion drops the root's whole part.
	return uint32(root(goal, k)), api.OK
}
