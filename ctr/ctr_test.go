package ctr

import (
	"bytes"
	stdaes "crypto/aes"
	"crypto/cipher"
	"math"
	"testing"

	"banyan/aes"
	"banyan/api"
)

// sample is so many bytes, others for each seed.
func sample(n int, seed uint32) []byte {
	b := make([]byte, n)
	x := seed
	for i := range b {
		x = x*1664525 + 1013904223
		b[i] = byte(x >> 24)
	}
	return b
}

// sampleKey and sampleNonce are a key and a nonce of a seed.
func sampleKey(seed uint32) aes.Key {
	return aes.Key(sample(32, seed))
}

func sampleNonce(seed uint32) Nonce {
	return Nonce(sample(12, seed+7000))
}

// want is the stream's beginning, by the library.
func want(t *testing.T, k aes.Key, n Nonce, size int) []byte {
	t.Helper()
	c, err := stdaes.NewCipher(k[:])
	if err != nil {
		t.Fatal(err)
	}
	var first [16]byte
	copy(first[:], n[:])
	b := make([]byte, size)
	cipher.NewCTR(c, first[:]).XORKeyStream(b, b)
	return b
}

// stream and crypt are what Stream and Crypt answer, if they do.
func stream(t *testing.T, k aes.Key, n Nonce, from, size int) []byte {
	t.Helper()
	b, e := Stream(k, n, from, size)
	if e != api.OK || len(b) != size {
		t.Fatalf("Stream from %d, of %d: %d bytes, error %d", from, size, len(b), e)
	}
	return b
}

func crypt(t *testing.T, k aes.Key, n Nonce, b []byte) []byte {
	t.Helper()
	x, e := Crypt(k, n, b)
	if e != api.OK || len(x) != len(b) {
		t.Fatalf("Crypt of %d bytes: %d bytes, error %d", len(b), len(x), e)
	}
	return x
}

// P5.1
func TestMadeOfBirthAndAddress(t *testing.T) {
	for _, c := range []struct {
		birth uint64
		addr  uint32
		want  Nonce
	}{
		{0, 0, Nonce{}},
		{1, 0, Nonce{7: 1}},
		{0, 1, Nonce{11: 1}},
		{258, 772, Nonce{6: 1, 7: 2, 10: 3, 11: 4}},
		{0x0102030405060708, 0x090a0b0c, Nonce{1, 2, 3, 4, 5, 6, 7, 8, 9, 10, 11, 12}},
		{0xf0e0d0c0b0a09080, 0xfeedbeef, Nonce{0xf0, 0xe0, 0xd0, 0xc0, 0xb0, 0xa0, 0x90, 0x80, 0xfe, 0xed, 0xbe, 0xef}},
		{math.MaxUint64, 0, Nonce{255, 255, 255, 255, 255, 255, 255, 255}},
		{0, math.MaxUint32, Nonce{8: 255, 9: 255, 10: 255, 11: 255}},
		{1 << 63, 1 << 31, Nonce{0: 0x80, 8: 0x80}},
	} {
		if n := Made(c.birth, c.addr); n != c.want {
			t.Errorf("Made(%#x, %#x): %x, not %x", c.birth, c.addr, n, c.want)
		}
	}
}

// P5.1: each bit has its own place.
func TestMadeOfEachBit(t *testing.T) {
	met := map[Nonce]int{Made(0, 0): -1}
	for bit := range 96 {
		var n Nonce
		if bit < 64 {
			n = Made(1<<bit, 0)
		} else {
			n = Made(0, 1<<(bit-64))
		}
		if other, there := met[n]; there {
			t.Errorf("bit %d: as bit %d", bit, other)
		}
		met[n] = bit
	}
}

// P5.1: the blocks by what the chapter says of them, beyond the 256th, where the number has two bytes.
func TestStreamIsBlocksInTurn(t *testing.T) {
	k := sampleKey(1)
	n := Nonce{1, 2, 3, 4, 5, 6, 7, 8, 9, 10, 11, 12}
	b := stream(t, k, n, 0, 65536)
	for i := range 4096 {
		block := aes.Seal(k, aes.Block{1, 2, 3, 4, 5, 6, 7, 8, 9, 10, 11, 12, 0, 0, byte(i / 256), byte(i % 256)})
		if !bytes.Equal(b[16*i:16*i+16], block[:]) {
			t.Errorf("block %d: %x, not %x", i, b[16*i:16*i+16], block)
		}
	}
}

// P5.1: a known block: of a key, a nonce and a number of zeros.
func TestStreamOfZeros(t *testing.T) {
	known := []byte{0xdc, 0x95, 0xc0, 0x78, 0xa2, 0x40, 0x89, 0x89, 0xad, 0x48, 0xa2, 0x14, 0x92, 0x84, 0x20, 0x87}
	if b := stream(t, aes.Key{}, Nonce{}, 0, 16); !bytes.Equal(b, known) {
		t.Errorf("%x, not %x", b, known)
	}
}

// P5.1: against the library's, from all places of the first blocks, and of all sizes there.
func TestStreamFromAllPlaces(t *testing.T) {
	for seed := range uint32(3) {
		k, n := sampleKey(seed), sampleNonce(seed)
		all := want(t, k, n, 200)
		for from := range 70 {
			for size := range 70 {
				if b := stream(t, k, n, from, size); !bytes.Equal(b, all[from:from+size]) {
					t.Errorf("seed %d, from %d, of %d: %x, not %x", seed, from, size, b, all[from:from+size])
				}
			}
		}
	}
}

// P5.1: up to the farthest place and the greatest size, where a part of a block is at either end.
func TestStreamAtItsEdges(t *testing.T) {
	k, n := sampleKey(4), sampleNonce(4)
	all := want(t, k, n, 2*65536)
	for _, from := range []int{0, 1, 15, 16, 17, 4095, 4096, 4097, 65519, 65520, 65521, 65535, 65536} {
		for _, size := range []int{0, 1, 15, 16, 17, 512, 65520, 65535, 65536} {
			if b := stream(t, k, n, from, size); !bytes.Equal(b, all[from:from+size]) {
				t.Errorf("from %d, of %d: others than the library's", from, size)
			}
		}
	}
}

// P5.1
func TestStreamOfWrongNumbers(t *testing.T) {
	wrong := []int{math.MinInt, math.MinInt + 1, -1 << 32, -65536, -16, -1, 65537, 65552, 1 << 31, 1 << 32, 1<<32 + 16, math.MaxInt}
	check := func(from, size int) {
		t.Helper()
		if b, e := Stream(sampleKey(5), sampleNonce(5), from, size); b != nil || e != api.ErrArg {
			t.Errorf("Stream from %d, of %d: %d bytes, error %d", from, size, len(b), e)
		}
	}
	for _, x := range wrong {
		for _, right := range []int{0, 1, 16, 65536} {
			check(x, right)
			check(right, x)
		}
		for _, y := range wrong {
			check(x, y)
		}
	}
}

// P5.1: each key's stream, and each nonce's, is its own.
func TestStreamsAreApart(t *testing.T) {
	k, n := sampleKey(6), sampleNonce(6)
	b := stream(t, k, n, 0, 32)
	for bit := range 256 {
		other := k
		other[bit/8] ^= 1 << (bit % 8)
		if bytes.Equal(stream(t, other, n, 0, 32), b) {
			t.Errorf("bit %d of the key is of no weight", bit)
		}
	}
	for bit := range 96 {
		other := n
		other[bit/8] ^= 1 << (bit % 8)
		if bytes.Equal(stream(t, k, other, 0, 32), b) {
			t.Errorf("bit %d of the nonce is of no weight", bit)
		}
	}
}

// P5.2: against the library's, of all sizes about the first blocks.
func TestCryptOfAllSizes(t *testing.T) {
	for size := range 600 {
		k, n, b := sampleKey(uint32(size)), sampleNonce(uint32(size)), sample(size, 7)
		summed := want(t, k, n, size)
		for i, x := range b {
			summed[i] ^= x
		}
		if x := crypt(t, k, n, b); !bytes.Equal(x, summed) {
			t.Errorf("%d bytes: %x, not %x", size, x, summed)
		}
	}
}

// P5.2: the chapter's examples.
func TestCryptOfNoBytesAndOfNoughts(t *testing.T) {
	k, n := sampleKey(8), sampleNonce(8)
	for _, b := range [][]byte{nil, {}, make([]byte, 0, 20)} {
		if x, e := Crypt(k, n, b); len(x) != 0 || e != api.OK {
			t.Errorf("of no bytes: %x, error %d", x, e)
		}
	}
	for _, size := range []int{1, 16, 50, 512, 65536} {
		if !bytes.Equal(crypt(t, k, n, make([]byte, size)), stream(t, k, n, 0, size)) {
			t.Errorf("of %d noughts: not the stream", size)
		}
	}
}

// P5.2
func TestCryptOfTooManyBytes(t *testing.T) {
	k, n := sampleKey(9), sampleNonce(9)
	crypt(t, k, n, sample(65535, 9))
	crypt(t, k, n, sample(65536, 9))
	for _, size := range []int{65537, 65552, 131072, 1 << 20} {
		if b, e := Crypt(k, n, make([]byte, size)); b != nil || e != api.ErrArg {
			t.Errorf("of %d bytes: %d bytes, error %d", size, len(b), e)
		}
	}
}

// P5.2: what is handed in stays as it is, with what stands behind it in its memory, and is not shared.
func TestCryptLeavesItsBytes(t *testing.T) {
	k, n := sampleKey(10), sampleNonce(10)
	for _, size := range []int{0, 1, 16, 17, 100, 199, 200} {
		all := sample(200, 10)
		x := crypt(t, k, n, all[:size])
		if !bytes.Equal(all, sample(200, 10)) {
			t.Errorf("%d bytes: changed", size)
		}
		known := bytes.Clone(x)
		clear(all)
		if !bytes.Equal(x, known) {
			t.Errorf("%d bytes: the answer changes with them", size)
		}
	}
}

// P5.1, P5.2
func TestAnswersAreNewMemory(t *testing.T) {
	k, n, b := sampleKey(11), sampleNonce(11), sample(100, 11)
	first, known := stream(t, k, n, 3, 100), bytes.Clone(stream(t, k, n, 3, 100))
	clear(first[:cap(first)])
	if !bytes.Equal(stream(t, k, n, 3, 100), known) {
		t.Error("Stream: another answer of the same")
	}
	first, known = crypt(t, k, n, b), bytes.Clone(crypt(t, k, n, b))
	clear(first[:cap(first)])
	if !bytes.Equal(crypt(t, k, n, b), known) || !bytes.Equal(b, sample(100, 11)) {
		t.Error("Crypt: another answer of the same")
	}
}

// P5.3
func TestCryptedTwiceIsAsItWas(t *testing.T) {
	for _, size := range []int{0, 1, 15, 16, 17, 31, 32, 33, 511, 512, 513, 4096, 65535, 65536} {
		k, n, b := sampleKey(uint32(size)), Made(uint64(size), 9), sample(size, 12)
		once := crypt(t, k, n, b)
		if !bytes.Equal(crypt(t, k, n, once), b) {
			t.Errorf("%d bytes: crypted twice others", size)
		}
		if size >= 15 && bytes.Equal(once, b) {
			t.Errorf("%d bytes: crypted once the same", size)
		}
	}
}

// P5.3
func TestBeginningsAreOfBeginnings(t *testing.T) {
	k, n, b := sampleKey(13), sampleNonce(13), sample(1000, 13)
	whole, all := crypt(t, k, n, b), stream(t, k, n, 0, 1000)
	for size := range b {
		if !bytes.Equal(crypt(t, k, n, b[:size]), whole[:size]) {
			t.Errorf("Crypt of %d bytes: not a beginning", size)
		}
		if !bytes.Equal(stream(t, k, n, 0, size), all[:size]) {
			t.Errorf("Stream of %d bytes: not a beginning", size)
		}
	}
}
