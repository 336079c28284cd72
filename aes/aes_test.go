package aes

import (
	"bytes"
	"crypto/aes"
	"encoding/hex"
	"testing"
)

// sample fills so many bytes, others for each seed.
func sample(b []byte, seed uint32) {
	x := seed
	for i := range b {
		x = x*1664525 + 1013904223
		b[i] = byte(x >> 24)
	}
}

// sampleKey and sampleBlock are a key and a block of a seed.
func sampleKey(seed uint32) Key {
	var k Key
	sample(k[:], seed)
	return k
}

func sampleBlock(seed uint32) Block {
	var b Block
	sample(b[:], seed)
	return b
}

// counted is the chapter's key: 00 01 and so on.
func counted() Key {
	var k Key
	for i := range k {
		k[i] = byte(i)
	}
	return k
}

// want is a block enciphered by the library.
func want(t *testing.T, k Key, b Block) Block {
	t.Helper()
	c, err := aes.NewCipher(k[:])
	if err != nil {
		t.Fatal(err)
	}
	var x Block
	c.Encrypt(x[:], b[:])
	return x
}

// fromHex is a text of bytes.
func fromHex(t *testing.T, s string) []byte {
	t.Helper()
	b, err := hex.DecodeString(s)
	if err != nil {
		t.Fatal(err)
	}
	return b
}

// product is that of two bytes as polynomials: all of it first, then the rest by x^8 + x^4 + x^3 + x + 1.
func product(a, b byte) byte {
	x := 0
	for i := range 8 {
		if b>>i&1 == 1 {
			x ^= int(a) << i
		}
	}
	for i := 14; i >= 8; i-- {
		if x>>i&1 == 1 {
			x ^= 0x11b << (i - 8)
		}
	}
	return byte(x)
}

// P4.1: all there are.
func TestTimesOfAllBytes(t *testing.T) {
	for a := range 256 {
		for b := range 256 {
			if x := Times(byte(a), byte(b)); x != product(byte(a), byte(b)) {
				t.Errorf("Times(%#x, %#x): %#x, not %#x", a, b, x, product(byte(a), byte(b)))
			}
		}
	}
}

// P4.1: products that are known, at the edges too.
func TestTimesOfKnownBytes(t *testing.T) {
	for _, c := range [][3]byte{
		{0x57, 0x83, 0xc1}, {0x57, 0x13, 0xfe}, {0x57, 0x02, 0xae}, {0x57, 0x10, 0x07}, {2, 0x80, 0x1b},
		{0, 0, 0}, {0, 0xff, 0}, {1, 0xff, 0xff}, {0xff, 0xff, 0x13}, {0x53, 0xca, 1}, {3, 0xf6, 1},
	} {
		if x, y := Times(c[0], c[1]), Times(c[1], c[0]); x != c[2] || y != c[2] {
			t.Errorf("%#x and %#x: %#x, and %#x, not %#x", c[0], c[1], x, y, c[2])
		}
	}
}

// P4.1: each byte's inverse, and it turned around by 1 to 4 places, and 0x63, summed.
func TestBoxOfAllBytes(t *testing.T) {
	for a := range 256 {
		inverse := 0
		for b := range 256 {
			if product(byte(a), byte(b)) == 1 {
				inverse = b
			}
		}
		x := byte(0x63)
		for i := range 5 {
			x ^= byte(inverse<<i | inverse>>(8-i))
		}
		if y := Box(byte(a)); y != x {
			t.Errorf("Box(%#x): %#x, not %#x", a, y, x)
		}
		if y := Unbox(x); y != byte(a) {
			t.Errorf("Unbox(%#x): %#x, not %#x", x, y, a)
		}
	}
}

// P4.1
func TestBoxOfKnownBytes(t *testing.T) {
	for _, c := range [][2]byte{{0, 0x63}, {1, 0x7c}, {0x53, 0xed}, {0x52, 0}, {0x80, 0xcd}, {0xff, 0x16}} {
		if x, y := Box(c[0]), Unbox(c[1]); x != c[1] || y != c[0] {
			t.Errorf("Box(%#x): %#x, not %#x; Unbox of that: %#x", c[0], x, c[1], y)
		}
	}
}

// P4.2: the known round keys of two known keys, all words of them.
func TestRoundsOfKnownKeys(t *testing.T) {
	for _, c := range []string{
		"603deb1015ca71be2b73aef0857d77811f352c073b6108d72d9810a30914dff4" +
			"9ba354118e6925afa51a8b5f2067fcdea8b09c1a93d194cdbe49846eb75d5b9a" +
			"d59aecb85bf3c917fee94248de8ebe96b5a9328a2678a647983122292f6c79b3" +
			"812c81addadf48ba24360af2fab8b46498c5bfc9bebd198e268c3ba709e04214" +
			"68007bacb2df331696e939e46c518d80c814e20476a9fb8a5025c02d59c58239" +
			"de1369676ccc5a71fa2563959674ee155886ca5d2e2f31d77e0af1fa27cf73c3" +
			"749c47ab18501ddae2757e4f7401905acafaaae3e4d59b349adf6acebd10190d" +
			"fe4890d1e6188d0b046df344706c631e",
		"000102030405060708090a0b0c0d0e0f101112131415161718191a1b1c1d1e1f" +
			"a573c29fa176c498a97fce93a572c09c1651a8cd0244beda1a5da4c10640bade" +
			"ae87dff00ff11b68a68ed5fb03fc15676de1f1486fa54f9275f8eb5373b8518d" +
			"c656827fc9a799176f294cec6cd5598b3de23a75524775e727bf9eb45407cf39" +
			"0bdc905fc27b0948ad5245a4c1871c2f45f5a66017b2d387300d4d33640a820a" +
			"7ccff71cbeb4fe5413e6bbf0d261a7dff01afafee7a82979d7a5644ab3afe640" +
			"2541fe719bf500258813bbd55a721c0a4e5a6699a9f24fe07e572baacdf8cdea" +
			"24fc79ccbf0979e9371ac23c6d68de36",
	} {
		b := fromHex(t, c)
		for i, round := range Rounds(Key(b)) {
			if round != Block(b[16*i:]) {
				t.Errorf("key %x, round %d: %x, not %x", b[:32], i, round, b[16*i:16*i+16])
			}
		}
	}
}

// P4.2: each word by what the chapter says of it.
func TestRoundsOfSomeKeys(t *testing.T) {
	for seed := range uint32(50) {
		k := sampleKey(seed)
		if seed == 0 {
			k = Key{}
		}
		w := make([][]byte, 60)
		all := Rounds(k)
		for i := range w {
			w[i] = all[i/4][i%4*4:][:4]
			if i < 8 {
				if !bytes.Equal(w[i], k[4*i:4*i+4]) {
					t.Errorf("seed %d, word %d: %x isn't the key's", seed, i, w[i])
				}
				continue
			}
			x := bytes.Clone(w[i-1])
			if i%8 == 0 {
				x = []byte{x[1], x[2], x[3], x[0]}
			}
			power := byte(1)
			for range i/8 - 1 {
				power = product(power, 2)
			}
			for j := range x {
				if i%4 == 0 {
					x[j] = Box(x[j])
				}
				if i%8 == 0 && j == 0 {
					x[j] ^= power
				}
				x[j] ^= w[i-8][j]
			}
			if !bytes.Equal(w[i], x) {
				t.Errorf("seed %d, word %d: %x, not %x", seed, i, w[i], x)
			}
		}
	}
}

// P4.2: the chapter's example, and others that are known.
func TestSealAndOpenOfExamples(t *testing.T) {
	const key = "603deb1015ca71be2b73aef0857d77811f352c073b6108d72d9810a30914dff4"
	const zeros = "0000000000000000000000000000000000000000000000000000000000000000"
	for _, c := range [][3]string{
		{"000102030405060708090a0b0c0d0e0f101112131415161718191a1b1c1d1e1f", "00112233445566778899aabbccddeeff", "8ea2b7ca516745bfeafc49904b496089"},
		{key, "6bc1bee22e409f96e93d7e117393172a", "f3eed1bdb5d2a03c064b5a7e3db181f8"},
		{key, "ae2d8a571e03ac9c9eb76fac45af8e51", "591ccb10d410ed26dc5ba74a31362870"},
		{key, "30c81c46a35ce411e5fbc1191a0a52ef", "b6ed21b99ca6f4f9f153e7b1beafed1d"},
		{key, "f69f2445df4f9b17ad2b417be66c3710", "23304b7a39f9f3ff067d8d8f9e24ecc7"},
		{zeros, zeros[:32], "dc95c078a2408989ad48a21492842087"},
	} {
		k, open, sealed := Key(fromHex(t, c[0])), Block(fromHex(t, c[1])), Block(fromHex(t, c[2]))
		if x := Seal(k, open); x != sealed {
			t.Errorf("%s under %s: sealed %x, not %s", c[1], c[0], x, c[2])
		}
		if x := Open(k, sealed); x != open {
			t.Errorf("%s under %s: opened %x, not %s", c[2], c[0], x, c[1])
		}
	}
}

// P4.2: against the library's, with keys and blocks of one bit, of all but one, and of many.
func TestSealOfSomeKeysAndBlocks(t *testing.T) {
	check := func(k Key, b Block) {
		t.Helper()
		sealed := want(t, k, b)
		if x := Seal(k, b); x != sealed {
			t.Errorf("%x under %x: sealed %x, not %x", b, k, x, sealed)
		}
		if x := Open(k, sealed); x != b {
			t.Errorf("%x under %x: opened %x, not %x", sealed, k, x, b)
		}
	}
	full := Key(bytes.Repeat([]byte{0xff}, 32))
	for bit := range 256 {
		k, less := Key{}, full
		k[bit/8] ^= 1 << (bit % 8)
		less[bit/8] ^= 1 << (bit % 8)
		check(k, Block{})
		check(less, Block(full[:]))
		if bit < 128 {
			check(Key{}, Block(k[:]))
			check(full, Block(less[:]))
		}
	}
	for seed := range uint32(1000) {
		check(sampleKey(seed), sampleBlock(seed+5000))
	}
}

// P4.3
func TestSealedIsOpened(t *testing.T) {
	blocks := []Block{{}, {15: 1}, Block(bytes.Repeat([]byte{0xff}, 16))}
	for seed := range uint32(100) {
		blocks = append(blocks, sampleBlock(seed))
	}
	for i, b := range blocks {
		for _, k := range []Key{{}, counted(), sampleKey(uint32(i))} {
			if x := Open(k, Seal(k, b)); x != b {
				t.Errorf("%x under %x: sealed and opened %x", b, k, x)
			}
			if x := Seal(k, Open(k, b)); x != b {
				t.Errorf("%x under %x: opened and sealed %x", b, k, x)
			}
		}
	}
}

// P4.3: a key that differs by one bit opens another block.
func TestOtherKeysOpenOthers(t *testing.T) {
	k, b := counted(), sampleBlock(1)
	sealed := Seal(k, b)
	for bit := range 256 {
		other := k
		other[bit/8] ^= 1 << (bit % 8)
		if Open(other, sealed) == b || Seal(other, b) == sealed {
			t.Errorf("bit %d of the key is of no weight", bit)
		}
	}
}

// P4.3
func TestEachByteButZeroHasAnInverse(t *testing.T) {
	for a := range 256 {
		ones := 0
		for b := range 256 {
			if Times(byte(a), byte(b)) == 1 {
				ones++
			}
		}
		if a == 0 && ones != 0 || a != 0 && ones != 1 {
			t.Errorf("%#x has %d inverses", a, ones)
		}
	}
}

// P4.3: the box loses no byte.
func TestBoxAndUnboxUndoEachOther(t *testing.T) {
	for a := range 256 {
		b := byte(a)
		if Unbox(Box(b)) != b || Box(Unbox(b)) != b {
			t.Errorf("%#x: Box %#x, Unbox %#x", b, Box(b), Unbox(b))
		}
	}
}

// P4.2: an answer hangs on the arguments alone.
func TestAnswersAreTheSameAgain(t *testing.T) {
	k, b := sampleKey(3), sampleBlock(4)
	rounds, sealed, opened := Rounds(k), Seal(k, b), Open(k, b)
	Seal(sampleKey(5), sampleBlock(6))
	Open(sampleKey(7), sampleBlock(8))
	if Rounds(k) != rounds || Seal(k, b) != sealed || Open(k, b) != opened {
		t.Error("another answer of the same key and block")
	}
}
