package sha

import (
	"bytes"
	"crypto/sha256"
	"encoding/hex"
	"strings"
	"testing"

	"banyan/api"
	"banyan/num"
)

const ofNothing = "e3b0c44298fc1c149afbf4c8996fb92427ae41e4649b934ca495991b7852b855"

// sample is so many bytes, of which no two blocks are the same.
func sample(n int) []byte {
	b := make([]byte, n)
	x := uint32(n)
	for i := range b {
		x = x*1664525 + 1013904223
		b[i] = byte(x >> 24)
	}
	return b
}

// hashOf is what a Hasher has by now.
func hashOf(t *testing.T, h *Hasher) api.Hash {
	t.Helper()
	x, e := h.Sum()
	if e != api.OK {
		t.Fatalf("Sum of a Hasher: error %d", e)
	}
	return x
}

// write hands bytes to a Hasher.
func write(t *testing.T, h *Hasher, b []byte) {
	t.Helper()
	if e := h.Write(b); e != api.OK {
		t.Fatalf("Write of %d bytes: error %d", len(b), e)
	}
}

// P2.1
func TestSumOfExamples(t *testing.T) {
	for _, c := range []struct{ text, want string }{
		{"", ofNothing},
		{"abc", "ba7816bf8f01cfea414140de5dae2223b00361a396177a9cb410ff61f20015ad"},
		{"abcdbcdecdefdefgefghfghighijhijkijkljklmklmnlmnomnopnopq", "248d6a61d20638b8e5c026930c3e6039a33ce45964ff2167f6ecedd419db06c1"},
		{strings.Repeat("a", 1000000), "cdc76e5c9914fb9281a1c7e284d73e67f1809a48a497200e046d39ccc7112cd0"},
	} {
		if x := Hex(Sum([]byte(c.text))); x != c.want {
			t.Errorf("Sum of %d bytes: %s, not %s", len(c.text), x, c.want)
		}
	}
	if x := Hex(Sum(nil)); x != ofNothing {
		t.Errorf("Sum of nil: %s", x)
	}
}

// P2.1: every length up to some blocks, so every place where the padding begins, and its two lengths.
func TestSumOfAllLengths(t *testing.T) {
	for n := range 400 {
		for _, b := range [][]byte{sample(n), make([]byte, n), bytes.Repeat([]byte{255}, n)} {
			if x := Sum(b); x != sha256.Sum256(b) {
				t.Errorf("Sum of %d bytes: %s", n, Hex(x))
			}
		}
	}
	for _, n := range []int{1 << 13, 1<<16 - 1, 1 << 16, 1<<20 + 57, 1 << 25} { // counts of bits of two, three and four bytes
		b := sample(n)
		if x := Sum(b); x != sha256.Sum256(b) {
			t.Errorf("Sum of %d bytes: %s", n, Hex(x))
		}
	}
}

// P2.1: counts of bits that take more than four bytes, without as many bytes being hashed.
func TestPaddingOfGreatCounts(t *testing.T) {
	for _, c := range []struct {
		taken int
		want  string
	}{
		{1<<29 - 1, "80" + strings.Repeat("00", 56) + "00000000fffffff8"},
		{1 << 29, "80" + strings.Repeat("00", 55) + "0000000100000000"},
		{1<<31 - 1, "80" + strings.Repeat("00", 56) + "00000003fffffff8"},
	} {
		if got := hex.EncodeToString(padding(c.taken)); got != c.want {
			t.Errorf("behind %d bytes: %s, not %s", c.taken, got, c.want)
		}
	}
}

// P2.1
func TestSumLeavesItsBytes(t *testing.T) {
	all := sample(200)
	for _, n := range []int{0, 1, 55, 56, 64, 100, 128} {
		Sum(all[:n]) // with room to spare
	}
	if !bytes.Equal(all, sample(200)) {
		t.Error("changed")
	}
}

// P2.1
func TestHexOfExamples(t *testing.T) {
	if x := Hex(api.Hash{}); x != strings.Repeat("0", 64) {
		t.Errorf("of zeros: %q", x)
	}
	counted := api.Hash{}
	for i := range counted {
		counted[i] = byte(i)
	}
	if x := Hex(counted); x != "000102030405060708090a0b0c0d0e0f101112131415161718191a1b1c1d1e1f" {
		t.Errorf("of 0 to 31: %q", x)
	}
	var high api.Hash
	for i := range high {
		high[i] = byte(i)<<4 | 15 - byte(i)&15
	}
	if x := Hex(high); x != "0f1e2d3c4b5a69788796a5b4c3d2e1f00f1e2d3c4b5a69788796a5b4c3d2e1f0" {
		t.Errorf("of mixed digits: %q", x)
	}
}

// primes are the first n ones.
func primes(n int) []uint32 {
	var l []uint32
	for p := uint32(2); len(l) < n; p++ {
		prime := true
		for _, q := range l {
			prime = prime && p%q != 0
		}
		if prime {
			l = append(l, p)
		}
	}
	return l
}

// P2.1: the numbers that are written out are the ones of the chapter.
func TestNumbersAreRoots(t *testing.T) {
	l := primes(rounds)
	first := start()
	for i := range first {
		if want, e := num.Frac(l[i], 2); first[i] != want || e != api.OK {
			t.Errorf("state %d: %#x, not %#x", i, first[i], want)
		}
	}
	for i := range roundNumbers {
		if want, e := num.Frac(l[i], 3); roundNumbers[i] != want || e != api.OK {
			t.Errorf("round %d: %#x, not %#x", i, roundNumbers[i], want)
		}
	}
}

// P2.2
func TestNewHasNoBytes(t *testing.T) {
	h := New()
	if h == nil {
		t.Fatal("no Hasher")
	}
	for range 2 {
		if x := Hex(hashOf(t, h)); x != ofNothing || h.Len() != 0 {
			t.Errorf("of nothing: %s, %d bytes", x, h.Len())
		}
		write(t, h, nil)
		write(t, h, []byte{})
	}
}

// P2.2
func TestHasherOfZerosHasNoBytes(t *testing.T) {
	h := &Hasher{}
	if x := Hex(hashOf(t, h)); x != ofNothing || h.Len() != 0 {
		t.Errorf("of nothing: %s, %d bytes", x, h.Len())
	}
	write(t, h, []byte("abc"))
	if x := hashOf(t, h); x != Sum([]byte("abc")) {
		t.Errorf("of abc: %s", Hex(x))
	}
}

// P2.2: a sum is asked behind each byte, which must leave no mark on the ones that follow.
func TestSumGoesOn(t *testing.T) {
	b := sample(300)
	h := New()
	for i := range b {
		write(t, h, b[i:i+1])
		if h.Len() != i+1 {
			t.Errorf("%d bytes, not %d", h.Len(), i+1)
		}
		first, second := hashOf(t, h), hashOf(t, h)
		if want := sha256.Sum256(b[:i+1]); first != want || second != want {
			t.Errorf("of %d bytes: %s, then %s", i+1, Hex(first), Hex(second))
		}
	}
}

// P2.2
func TestNilHasher(t *testing.T) {
	var h *Hasher
	for _, b := range [][]byte{nil, {}, {1}, make([]byte, 100)} {
		if e := h.Write(b); e != api.ErrNil {
			t.Errorf("Write of %d bytes: %d", len(b), e)
		}
	}
	if x, e := h.Sum(); x != (api.Hash{}) || e != api.ErrNil {
		t.Errorf("Sum: %s, %d", Hex(x), e)
	}
	if n := h.Len(); n != 0 {
		t.Errorf("Len: %d", n)
	}
}

// P2.2: what is handed in is read at once, and left as it is, its spare room too.
func TestWriteKeepsNothing(t *testing.T) {
	for _, n := range []int{1, 63, 64, 65, 100, 128, 200} {
		b := sample(256)
		h := New()
		write(t, h, b[:n])
		hashOf(t, h)
		if !bytes.Equal(b, sample(256)) {
			t.Errorf("of %d bytes: changed", n)
		}
		clear(b)
		if x := hashOf(t, h); x != sha256.Sum256(sample(256)[:n]) {
			t.Errorf("of %d bytes, changed behind Write: %s", n, Hex(x))
		}
	}
}

// P2.2
func TestHashersAreApart(t *testing.T) {
	a, b := sample(500), bytes.Repeat([]byte{7}, 500)
	g, h := New(), New()
	for i := 0; i < 500; i += 50 {
		write(t, g, a[i:i+50])
		write(t, h, b[i:i+50])
	}
	if x, y := hashOf(t, g), hashOf(t, h); x != sha256.Sum256(a) || y != sha256.Sum256(b) {
		t.Errorf("one by turns with another: %s, %s", Hex(x), Hex(y))
	}
}

// P2.3
func TestTwoPartsAreOne(t *testing.T) {
	for _, n := range []int{0, 1, 2, 54, 55, 56, 57, 63, 64, 65, 119, 120, 127, 128, 129, 192, 200} {
		b := sample(n)
		want := Sum(b)
		for cut := range n + 1 {
			h := New()
			write(t, h, b[:cut])
			write(t, h, b[cut:])
			if x := hashOf(t, h); x != want || h.Len() != n {
				t.Errorf("%d bytes, cut at %d: %s, %d bytes", n, cut, Hex(x), h.Len())
			}
		}
	}
}

// P2.3
func TestManyPartsAreOne(t *testing.T) {
	b := sample(1000)
	want := Sum(b)
	for size := 1; size <= 300; size++ {
		h := New()
		for i := 0; i < len(b); i += size {
			write(t, h, b[i:min(i+size, len(b))])
			write(t, h, nil)
		}
		if x := hashOf(t, h); x != want || h.Len() != len(b) {
			t.Errorf("in parts of %d: %s, %d bytes", size, Hex(x), h.Len())
		}
	}
	h := New()
	for i, size := 0, 0; i < len(b); i, size = i+size, size+1 { // parts of all sizes, none at first
		write(t, h, b[i:min(i+size, len(b))])
	}
	if x := hashOf(t, h); x != want {
		t.Errorf("in parts that grow: %s", Hex(x))
	}
}

func BenchmarkSum(b *testing.B) {
	data := sample(512)
	b.SetBytes(int64(len(data)))
	for b.Loop() {
		Sum(data)
	}
}
