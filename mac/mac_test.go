package mac

import (
	"bytes"
	"crypto/hkdf"
	"crypto/hmac"
	"crypto/sha256"
	"encoding/hex"
	"math"
	"strings"
	"testing"

	"banyan/api"
	"banyan/sha"
)

// sample is so many bytes, others for each seed.
func sample(n int, seed uint32) []byte {
	b := make([]byte, n)
	x := seed
	for i := range b {
		x = x*1664525 + 1013904223
		b[i] = byte(x >> 24)
	}
	return b
}

// want is HMAC-SHA-256, by the library.
func want(key, msg []byte) api.Hash {
	h := hmac.New(sha256.New, key)
	h.Write(msg)
	return api.Hash(h.Sum(nil))
}

// expand is what Expand answers, if it does.
func expand(t *testing.T, key []byte, label string, n int) []byte {
	t.Helper()
	b, e := Expand(key, label, n)
	if e != api.OK || len(b) != n {
		t.Fatalf("Expand(%d bytes, %q, %d): %d bytes, error %d", len(key), label, n, len(b), e)
	}
	return b
}

// keySizes are lengths of keys about a block, about two, and far beyond.
func keySizes() []int {
	return []int{0, 1, 2, 31, 32, 33, 55, 56, 63, 64, 65, 66, 127, 128, 129, 1000, 100000}
}

// P3.1: the chapter's example, and those of RFC 4231 that have whole codes.
func TestMacOfExamples(t *testing.T) {
	long := bytes.Repeat([]byte{0xaa}, 131)
	counted := make([]byte, 25)
	for i := range counted {
		counted[i] = byte(i + 1)
	}
	for _, c := range []struct {
		key, msg []byte
		want     string
	}{
		{bytes.Repeat([]byte{0x0b}, 20), []byte("Hi There"), "b0344c61d8db38535ca8afceaf0bf12b881dc200c9833da726e9376c2e32cff7"},
		{[]byte("Jefe"), []byte("what do ya want for nothing?"), "5bdcc146bf60754e6a042426089575c75a003f089d2739839dec58b964ec3843"},
		{bytes.Repeat([]byte{0xaa}, 20), bytes.Repeat([]byte{0xdd}, 50), "773ea91e36800e46854db8ebd09181a72959098b3ef8c122d9635514ced565fe"},
		{counted, bytes.Repeat([]byte{0xcd}, 50), "82558a389a443c0ea4cc819899f2083a85f0faa3e578f8077a2e3ff46729665b"},
		{long, []byte("Test Using Larger Than Block-Size Key - Hash Key First"), "60e431591ee0b67f0d8a26aacbf5b77f8e0bc6213728c5140546040f0ee37f54"},
		{long, []byte("This is a test using a larger than block-size key and a larger than block-size data. The key needs to be hashed before being used by the HMAC algorithm."), "9b09ffa71b942fcb27635fbcd5b0e944bfdc63644f0713938a7f51535c3a35e2"},
		{nil, nil, "b613679a0814d9ec772f95d778c35fc5ff1697c493715653c6c712144292c5ad"},
	} {
		if x := sha.Hex(Mac(c.key, c.msg)); x != c.want {
			t.Errorf("key of %d bytes, message of %d: %s, not %s", len(c.key), len(c.msg), x, c.want)
		}
	}
}

// P3.1: keys about a block's length, where hashing begins, and messages of all lengths.
func TestMacOfAllLengths(t *testing.T) {
	for n := range 140 {
		key := sample(n, 1)
		for _, m := range []int{0, 1, 55, 56, 63, 64, 65, 128, 500} {
			msg := sample(m, 2)
			if x := Mac(key, msg); x != want(key, msg) {
				t.Errorf("key of %d bytes, message of %d: %s", n, m, sha.Hex(x))
			}
		}
	}
	for _, n := range keySizes() {
		for m := range 140 {
			key, msg := sample(n, 3), sample(m, 4)
			if x := Mac(key, msg); x != want(key, msg) {
				t.Errorf("key of %d bytes, message of %d: %s", n, m, sha.Hex(x))
			}
		}
	}
	key, msg := sample(20, 5), sample(1<<20+7, 6)
	if x := Mac(key, msg); x != want(key, msg) {
		t.Errorf("message of %d bytes: %s", len(msg), sha.Hex(x))
	}
}

// P3.1
func TestNilAndEmptyAreOne(t *testing.T) {
	some := []byte{1, 2, 3}
	if Mac(nil, some) != Mac([]byte{}, some) || Mac(some, nil) != Mac(some, []byte{}) {
		t.Error("Mac: nil isn't empty")
	}
	if !Fits(nil, nil, Mac([]byte{}, []byte{})) || !Fits([]byte{}, []byte{}, Mac(nil, nil)) {
		t.Error("Fits: nil isn't empty")
	}
	if Derive(nil, "a") != Derive([]byte{}, "a") {
		t.Error("Derive: nil isn't empty")
	}
	if !bytes.Equal(expand(t, nil, "a", 40), expand(t, []byte{}, "a", 40)) {
		t.Error("Expand: nil isn't empty")
	}
}

// P3.1
func TestFitsItsCodeAlone(t *testing.T) {
	for _, n := range keySizes() {
		key, msg := sample(n, 7), sample(n/2, 8)
		code := Mac(key, msg)
		if !Fits(key, msg, code) {
			t.Errorf("key of %d bytes: its code doesn't fit", n)
		}
		for bit := range 8 * len(code) {
			other := code
			other[bit/8] ^= 1 << (bit % 8)
			if Fits(key, msg, other) {
				t.Errorf("key of %d bytes: fits with bit %d turned", n, bit)
			}
		}
		if Fits(key, append(msg[:len(msg):len(msg)], 0), code) {
			t.Errorf("key of %d bytes: fits a message with a byte more", n)
		}
		if Fits(append([]byte{1}, key...), msg, code) {
			t.Errorf("key of %d bytes: fits under a key with a byte more", n)
		}
	}
	if Fits(nil, nil, api.Hash{}) {
		t.Error("a code of zeros fits")
	}
}

// P3.1: labels are bytes, whether they are text or not.
func TestDeriveIsTheLabelsCode(t *testing.T) {
	for _, n := range keySizes() {
		key := sample(n, 9)
		for _, label := range []string{"", "a", "b", "enc", "\x00", "\xff\xfe", "wörter", strings.Repeat("long", 100)} {
			if x := Derive(key, label); x != want(key, []byte(label)) {
				t.Errorf("key of %d bytes, label %q: %s", n, label, sha.Hex(x))
			}
		}
	}
}

// P3.2: the expanding half of RFC 5869's first case.
func TestExpandOfExample(t *testing.T) {
	key, err := hex.DecodeString("077709362c2e32df0ddc3f0dc47bba6390b6c73bb50f9c3122ec844ad7c2b3e5")
	if err != nil {
		t.Fatal(err)
	}
	b := expand(t, key, "\xf0\xf1\xf2\xf3\xf4\xf5\xf6\xf7\xf8\xf9", 42)
	if x := hex.EncodeToString(b); x != "3cb25f25faacd57a90434f64d0362f2a2d2d0a90cf1a5a4c5db02d56ecc4c5bf34007208d5b887185865" {
		t.Error(x)
	}
}

// P3.2: each code has the one ahead, the label and its number behind.
func TestExpandIsCodesInTurn(t *testing.T) {
	for _, n := range keySizes() {
		key := sample(n, 10)
		for _, label := range []string{"", "label", "\xff\x00", strings.Repeat("long", 50)} {
			b := expand(t, key, label, 255*32)
			var ahead []byte
			for i := 1; i <= 255; i++ {
				msg := append(append(bytes.Clone(ahead), label...), byte(i))
				code := want(key, msg)
				ahead = b[32*(i-1) : 32*i]
				if !bytes.Equal(ahead, code[:]) {
					t.Fatalf("key of %d bytes, label %q, code %d: %x, not %x", n, label, i, ahead, code)
				}
			}
		}
	}
}

// P3.2: against the library's.
func TestExpandOfSomeCounts(t *testing.T) {
	key := sample(32, 11)
	for _, n := range []int{1, 2, 31, 32, 33, 50, 63, 64, 65, 96, 1000, 8127, 8128, 8129, 8159, 8160} {
		known, err := hkdf.Expand(sha256.New, key, "info", n)
		if err != nil {
			t.Fatal(err)
		}
		if b := expand(t, key, "info", n); !bytes.Equal(b, known) {
			t.Errorf("%d bytes: %x, not %x", n, b, known)
		}
	}
	expand(t, key, "info", 0)
	expand(t, nil, "", 0)
}

// P3.2
func TestExpandOfWrongCounts(t *testing.T) {
	for _, n := range []int{math.MinInt, math.MinInt + 1, -8160, -32, -1, 8161, 8192, 1 << 32, 1<<32 + 5, math.MaxInt} {
		for _, label := range []string{"", "label"} {
			for _, key := range [][]byte{nil, {1}, sample(100, 12)} {
				if b, e := Expand(key, label, n); b != nil || e != api.ErrArg {
					t.Errorf("Expand(%d bytes, %q, %d): %d bytes, error %d", len(key), label, n, len(b), e)
				}
			}
		}
	}
}

// P3.2
func TestExpandAnswersNewMemory(t *testing.T) {
	key := sample(32, 13)
	a, b := expand(t, key, "a", 100), expand(t, key, "a", 100)
	whole := bytes.Clone(b)
	clear(a[:cap(a)])
	if !bytes.Equal(b, whole) || !bytes.Equal(key, sample(32, 13)) {
		t.Error("an answer shares memory with another one, or with the key")
	}
}

// P3.1, P3.2: keys and messages stay as they are, with what stands behind them in their memory.
func TestArgumentsAreLeft(t *testing.T) {
	for _, n := range []int{0, 1, 32, 63, 64, 65, 100} {
		keys, msgs := sample(200, 14), sample(200, 15)
		key, msg := keys[:n], msgs[:n]
		Fits(key, msg, Mac(key, msg))
		Derive(key, "label")
		Expand(key, "label", 100)
		if !bytes.Equal(keys, sample(200, 14)) || !bytes.Equal(msgs, sample(200, 15)) {
			t.Errorf("key and message of %d bytes: changed", n)
		}
		// One memory for both, the message behind the key.
		both := sample(200, 16)
		if x := Mac(both[:n], both[n:]); x != want(both[:n], both[n:]) || !bytes.Equal(both, sample(200, 16)) {
			t.Errorf("key of %d bytes, the message behind it: %s", n, sha.Hex(x))
		}
	}
}

// P3.3
func TestFewerBytesAreABeginning(t *testing.T) {
	key := sample(40, 17)
	most := expand(t, key, "label", 8160)
	for n := range 300 {
		if !bytes.Equal(expand(t, key, "label", n), most[:n]) {
			t.Errorf("%d bytes aren't a beginning", n)
		}
	}
	for n := 300; n < 8160; n += 97 {
		if !bytes.Equal(expand(t, key, "label", n), most[:n]) {
			t.Errorf("%d bytes aren't a beginning", n)
		}
	}
}

// P3.3: up to 64 bytes in all, and not beyond.
func TestZerosBehindAKey(t *testing.T) {
	msg := sample(30, 18)
	for n := range 65 {
		key := sample(n, 19)
		code, bytes50 := Mac(key, msg), expand(t, key, "label", 50)
		for all := n; all <= 64; all++ {
			longer := append(bytes.Clone(key), make([]byte, all-n)...)
			if Mac(longer, msg) != code || !Fits(longer, msg, code) || Derive(longer, string(msg)) != code {
				t.Errorf("key of %d bytes, with zeros up to %d: another code", n, all)
			}
			if !bytes.Equal(expand(t, longer, "label", 50), bytes50) {
				t.Errorf("key of %d bytes, with zeros up to %d: other bytes", n, all)
			}
		}
		for _, all := range []int{65, 66, 128} {
			if Mac(append(bytes.Clone(key), make([]byte, all-n)...), msg) == code {
				t.Errorf("key of %d bytes, with zeros up to %d: the same code", n, all)
			}
		}
	}
}
