package seal

import (
	"bytes"
	stdaes "crypto/aes"
	"crypto/cipher"
	"crypto/hmac"
	"crypto/sha256"
	"encoding/binary"
	"encoding/hex"
	"fmt"
	"math"
	"math/rand"
	"testing"

	"banyan/aes"
	"banyan/api"
)

// sample is so many bytes, others for each seed.
func sample(n int, seed int64) []byte {
	b := make([]byte, n)
	rand.New(rand.NewSource(seed)).Read(b)
	return b
}

// sampleKeys are keys of a seed, that no master key need have.
func sampleKeys(seed int64) Keys {
	b := sample(64, seed)
	return Keys{Enc: aes.Key(b[:32]), Mac: api.Hash(b[32:])}
}

// blocks are bytes of a sector, of all kinds.
func blocks() [][]byte {
	return [][]byte{make([]byte, 512), bytes.Repeat([]byte{255}, 512), bytes.Repeat([]byte("some"), 128),
		append([]byte{1}, make([]byte, 511)...), append(make([]byte, 511), 1), sample(512, 1), sample(512, 2)}
}

// births and addrs are numbers at all edges, that may be.
var births = []uint64{1, 2, 255, 256, math.MaxUint32, 1 << 32, 1<<32 + 1, 1 << 63, math.MaxUint64 - 1, math.MaxUint64}
var addrs = []uint32{2, 3, 15, 16, 255, 256, 257, 2048, 4094, 4095}

// wrongAddrs are numbers of no sector behind the ubers, and such as are some if they lose bits.
var wrongAddrs = []uint32{0, 1, 4096, 4097, 4098, 8191, 8192, 65536, 65536 + 2, 1<<16 + 4095, 1 << 24, 1<<31 - 1, 1 << 31, 1<<31 + 2,
	math.MaxUint32 - 1, math.MaxUint32}

// code is a label's under a key, by the library.
func code(key []byte, label string) []byte {
	h := hmac.New(sha256.New, key)
	h.Write([]byte(label))
	return h.Sum(nil)
}

// streamed are bytes summed with the stream of a birth and an address, by the library.
func streamed(t *testing.T, k Keys, birth uint64, addr uint32, b []byte) []byte {
	t.Helper()
	c, err := stdaes.NewCipher(k.Enc[:])
	if err != nil {
		t.Fatal(err)
	}
	first := binary.BigEndian.AppendUint64(nil, birth)
	first = binary.BigEndian.AppendUint32(first, addr)
	x := make([]byte, len(b))
	cipher.NewCTR(c, append(first, 0, 0, 0, 0)).XORKeyStream(x, b)
	return x
}

// pointer is sealed bytes', told plainly.
func pointer(birth uint64, addr uint32, sealed []byte) api.Ptr {
	return api.Ptr{Addr: addr, Birth: birth, Sum: sha256.Sum256(sealed)}
}

// made is what Seal answers, if it does.
func made(t *testing.T, k Keys, birth uint64, addr uint32, b []byte) ([]byte, api.Ptr) {
	t.Helper()
	sealed, p, e := Seal(k, birth, addr, b)
	if e != api.OK || len(sealed) != 512 {
		t.Fatalf("birth %d, address %d: %d bytes, error %d", birth, addr, len(sealed), e)
	}
	return sealed, p
}

// refuses tells if Seal answers ErrArg, and nothing beside it.
func refuses(t *testing.T, k Keys, birth uint64, addr uint32, b []byte) {
	t.Helper()
	if sealed, p, e := Seal(k, birth, addr, b); len(sealed) != 0 || p != (api.Ptr{}) || e != api.ErrArg {
		t.Errorf("birth %d, address %d, %d bytes: %d bytes, %v, error %d", birth, addr, len(b), len(sealed), p, e)
	}
}

// opens tells if Open answers that.
func opens(t *testing.T, what string, k Keys, p api.Ptr, b, want []byte, err api.Errno) {
	t.Helper()
	if x, e := Open(k, p, b); !bytes.Equal(x, want) || e != err {
		t.Errorf("%s: %d bytes, error %d, not %d bytes, %d", what, len(x), e, len(want), err)
	}
}

// P12.1: master keys of all lengths about a hash's and a block's, none too.
func TestDerive(t *testing.T) {
	for _, size := range []int{0, 1, 2, 6, 31, 32, 33, 63, 64, 65, 127, 128, 129, 512, 1000} {
		for seed := range int64(3) {
			master := sample(size, seed)
			want := Keys{Enc: aes.Key(code(master, "enc")), Mac: api.Hash(code(master, "mac"))}
			if k := Derive(master); k != want {
				t.Errorf("%d bytes: %x", size, k)
			}
		}
	}
	if Derive(nil) != Derive([]byte{}) {
		t.Error("nil and empty aren't one")
	}
}

// P12.1: known codes, told by a program of its own.
func TestDeriveOfAKnownKey(t *testing.T) {
	k := Derive([]byte("master"))
	if enc := hex.EncodeToString(k.Enc[:]); enc != "ef67c50488e0454789b605d32ed87d720f751250ae4532641e7830bbf0eeee28" {
		t.Error("Enc:", enc)
	}
	if mac := hex.EncodeToString(k.Mac[:]); mac != "b673f29f607c5043cae4a838b451b5bda508673a89f7d4092a4f6f44decbd329" {
		t.Error("Mac:", mac)
	}
}

// P12.1: each master key's are its own, and apart from one another.
func TestDerivedKeysAreApart(t *testing.T) {
	master := sample(40, 3)
	k := Derive(master)
	if api.Hash(k.Enc) == k.Mac {
		t.Error("Enc is Mac")
	}
	for bit := range 8 * len(master) {
		master[bit/8] ^= 1 << (bit % 8)
		if other := Derive(master); other.Enc == k.Enc || other.Mac == k.Mac {
			t.Errorf("bit %d is of no weight", bit)
		}
		master[bit/8] ^= 1 << (bit % 8)
	}
}

// P12.1: births and addresses at all edges, bytes of all kinds, under derived keys and others, beside the library's.
func TestSeal(t *testing.T) {
	for i, k := range []Keys{{}, Derive(nil), Derive([]byte("master")), sampleKeys(4)} {
		for _, birth := range births {
			for _, addr := range addrs {
				for j, b := range blocks() {
					sealed, p := made(t, k, birth, addr, b)
					want := streamed(t, k, birth, addr, b)
					if !bytes.Equal(sealed, want) || p != pointer(birth, addr, want) {
						t.Errorf("keys %d, birth %d, address %d, block %d: %v", i, birth, addr, j, p)
					}
				}
			}
		}
	}
}

// P12.1: the bounds of an address, each of them by itself, and beyond.
func TestSealAtAllAddresses(t *testing.T) {
	k, b := sampleKeys(5), sample(512, 5)
	for addr := range uint32(4200) {
		if addr < 2 || addr >= 4096 {
			refuses(t, k, 9, addr, b)
		} else if sealed, p := made(t, k, 9, addr, b); p != pointer(9, addr, sealed) {
			t.Errorf("address %d: %v", addr, p)
		}
	}
	for _, addr := range wrongAddrs {
		for _, birth := range births {
			refuses(t, k, birth, addr, b)
		}
	}
}

// P12.1: a birth may be any but 0, each bit of it alone too.
func TestSealOfAllBirths(t *testing.T) {
	k, b := sampleKeys(6), sample(512, 6)
	for bit := range 64 {
		birth := uint64(1) << bit
		sealed, p := made(t, k, birth, 7, b)
		if p.Birth != birth || !bytes.Equal(sealed, streamed(t, k, birth, 7, b)) {
			t.Errorf("birth %d: %v", birth, p)
		}
	}
	for _, addr := range addrs {
		refuses(t, k, 0, addr, b)
	}
}

// P12.1: no other count of bytes; and any two of what may not be together.
func TestSealOfOtherCounts(t *testing.T) {
	k, all := sampleKeys(7), sample(1<<17, 7)
	sizes := []int{1535, 1536, 4096, 65024, 65535, 65536, 65537, 66048, 1 << 17}
	for size := range 1100 {
		sizes = append(sizes, size)
	}
	for _, size := range sizes {
		if size == 512 {
			continue
		}
		refuses(t, k, 9, 20, all[:size])
		refuses(t, k, 0, 20, all[:size])
		refuses(t, k, 9, 1, all[:size])
		refuses(t, k, 0, 4096, all[:size])
	}
	refuses(t, k, 9, 20, nil)
	refuses(t, k, 0, 0, nil)
	refuses(t, k, 0, 1, all[:512])
	refuses(t, k, 0, 4096, all[:512])
}

// P12.1: it is Enc that seals, with each of its bits, and Mac that doesn't.
func TestWhichKeySeals(t *testing.T) {
	k, b := sampleKeys(8), sample(512, 8)
	sealed, p := made(t, k, 9, 20, b)
	for bit := range 256 {
		other := k
		other.Enc[bit/8] ^= 1 << (bit % 8)
		if x, q := made(t, other, 9, 20, b); bytes.Equal(x, sealed) || q == p {
			t.Errorf("bit %d of Enc is of no weight", bit)
		}
		other = k
		other.Mac[bit/8] ^= 1 << (bit % 8)
		if x, q := made(t, other, 9, 20, b); !bytes.Equal(x, sealed) || q != p {
			t.Errorf("bit %d of Mac is of weight", bit)
		}
		opens(t, fmt.Sprintf("bit %d of Mac", bit), other, p, sealed, b, api.OK)
	}
}

// P12.2: each bit of the bytes, and of the sum, is of weight; the address and the birth are of none.
func TestFits(t *testing.T) {
	for i, b := range blocks() {
		p := pointer(9, 20, b)
		for _, q := range []api.Ptr{p, {Sum: p.Sum}, {Addr: 1, Sum: p.Sum}, {Addr: math.MaxUint32, Birth: math.MaxUint64, Sum: p.Sum}} {
			if !Fits(q, b) {
				t.Errorf("block %d: doesn't fit %v", i, q)
			}
		}
		for bit := range 256 {
			q := p
			q.Sum[bit/8] ^= 1 << (bit % 8)
			if Fits(q, b) {
				t.Errorf("block %d: fits a sum with bit %d turned", i, bit)
			}
		}
		for bit := range 8 * len(b) {
			b[bit/8] ^= 1 << (bit % 8)
			if Fits(p, b) {
				t.Errorf("block %d: fits with bit %d turned", i, bit)
			}
			b[bit/8] ^= 1 << (bit % 8)
		}
		if Fits(api.Ptr{}, b) || Fits(api.Ptr{Addr: 20, Birth: 9}, b) {
			t.Errorf("block %d: fits a sum of noughts", i)
		}
	}
}

// P12.2: bytes of another count fit no pointer, and aren't opened, whether their sum is its or not.
func TestOtherCountsFitNothing(t *testing.T) {
	k, all := sampleKeys(9), sample(1<<17, 9)
	_, p := made(t, k, 9, 20, all[:512])
	sizes := []int{4096, 65535, 65536, 65537, 1 << 17}
	for size := range 1100 {
		sizes = append(sizes, size)
	}
	for _, size := range sizes {
		if size == 512 {
			continue
		}
		for _, q := range []api.Ptr{pointer(9, 20, all[:size]), p, {}} {
			if Fits(q, all[:size]) {
				t.Errorf("%d bytes fit %v", size, q)
			}
			opens(t, fmt.Sprintf("%d bytes, %v", size, q), k, q, all[:size], nil, api.ErrArg)
		}
	}
	if none := pointer(9, 20, nil); Fits(none, nil) || Fits(api.Ptr{}, nil) {
		t.Error("nil fits")
	}
	opens(t, "nil", k, pointer(9, 20, nil), nil, nil, api.ErrArg)
}

// P12.2: what was turned at any bit, in the block or in the sum, isn't opened.
func TestOpenOfABitTurned(t *testing.T) {
	k, b := Derive([]byte("master")), sample(512, 10)
	sealed, p := made(t, k, 9, 20, b)
	for bit := range 8 * len(sealed) {
		sealed[bit/8] ^= 1 << (bit % 8)
		opens(t, fmt.Sprintf("bit %d", bit), k, p, sealed, nil, api.ErrSum)
		sealed[bit/8] ^= 1 << (bit % 8)
	}
	for bit := range 256 {
		q := p
		q.Sum[bit/8] ^= 1 << (bit % 8)
		opens(t, fmt.Sprintf("bit %d of the sum", bit), k, q, sealed, nil, api.ErrSum)
	}
	opens(t, "none", k, p, sealed, b, api.OK)
}

// P12.2: neither what isn't sealed, nor what was sealed otherwise, is opened by a block's pointer.
func TestOpenOfOtherBlocks(t *testing.T) {
	k, b := Derive([]byte("master")), sample(512, 11)
	_, p := made(t, k, 9, 20, b)
	for i, x := range blocks() {
		opens(t, fmt.Sprintf("block %d, not sealed", i), k, p, x, nil, api.ErrSum)
		other, _ := made(t, k, 9, 20, x)
		opens(t, fmt.Sprintf("block %d, sealed", i), k, p, other, nil, api.ErrSum)
	}
	opens(t, "not sealed", k, p, b, nil, api.ErrSum)
	opens(t, "the null pointer", k, api.Ptr{}, b, nil, api.ErrSum)
	for _, at := range [][2]int{{8, 20}, {10, 20}, {9, 19}, {9, 21}} {
		other, q := made(t, k, uint64(at[0]), uint32(at[1]), b)
		opens(t, fmt.Sprint(at), k, p, other, nil, api.ErrSum)
		opens(t, fmt.Sprint(at), k, q, other, b, api.OK)
	}
}

// P12.2: of bytes that fit the answer hangs on the pointer's birth and address, one that may not be too.
func TestOpenOfAnyPointer(t *testing.T) {
	k := sampleKeys(12)
	for i, b := range blocks() {
		for _, birth := range append([]uint64{0}, births...) {
			for _, addr := range append(wrongAddrs, addrs...) {
				what := fmt.Sprintf("block %d, birth %d, address %d", i, birth, addr)
				opens(t, what, k, pointer(birth, addr, b), b, streamed(t, k, birth, addr, b), api.OK)
			}
		}
	}
}

// P12.2: under other keys what fits is opened to other bytes.
func TestOpenUnderOtherKeys(t *testing.T) {
	k, b := sampleKeys(13), sample(512, 13)
	sealed, p := made(t, k, 9, 20, b)
	for seed := range int64(13) {
		other := sampleKeys(seed)
		want := streamed(t, other, 9, 20, sealed)
		if bytes.Equal(want, b) {
			t.Errorf("seed %d: the same bytes", seed)
		}
		opens(t, fmt.Sprintf("seed %d", seed), other, p, sealed, want, api.OK)
	}
}

// P12.3: what is sealed is opened by its pointer.
func TestWhatIsSealedIsOpened(t *testing.T) {
	for i, k := range []Keys{{}, Derive(nil), Derive([]byte("master")), sampleKeys(14)} {
		for _, birth := range births {
			for _, addr := range addrs {
				for j, b := range blocks() {
					sealed, p := made(t, k, birth, addr, b)
					what := fmt.Sprintf("keys %d, birth %d, address %d, block %d", i, birth, addr, j)
					if !Fits(p, sealed) || bytes.Equal(sealed, b) {
						t.Error(what)
					}
					opens(t, what, k, p, sealed, b, api.OK)
				}
			}
		}
	}
}

// P12.3: the same bytes, of each birth at each address, are sealed to others.
func TestSealedBytesAreApart(t *testing.T) {
	k, b := Derive([]byte("master")), sample(512, 15)
	met := map[[512]byte]string{[512]byte(b): "not sealed"}
	sums := map[api.Hash]string{}
	meet := func(birth uint64, addr uint32) {
		t.Helper()
		what := fmt.Sprintf("birth %d, address %d", birth, addr)
		sealed, p := made(t, k, birth, addr, b)
		if other, there := met[[512]byte(sealed)]; there {
			t.Errorf("%s: as %s", what, other)
		}
		if other, there := sums[p.Sum]; there {
			t.Errorf("%s: the sum of %s", what, other)
		}
		met[[512]byte(sealed)], sums[p.Sum] = what, what
	}
	for _, birth := range births {
		for _, addr := range addrs {
			meet(birth, addr)
		}
	}
	for bit := 9; bit < 63; bit++ {
		if bit != 32 {
			meet(1<<bit, 2)
		}
	}
	for addr := uint32(300); addr < 600; addr++ {
		meet(9, addr)
		meet(uint64(addr), 9) // the two the other way round
	}
}

// P12.1, P12.2: what is handed in stays as it is, its spare room too, and isn't kept.
func TestArgumentsStay(t *testing.T) {
	master := sample(200, 16)
	for _, size := range []int{0, 1, 32, 64, 65, 100} {
		k := Derive(master[:size])
		if !bytes.Equal(master, sample(200, 16)) || k != Derive(sample(200, 16)[:size]) {
			t.Errorf("master key of %d bytes: changed", size)
		}
	}
	k, room := sampleKeys(16), sample(600, 17)
	sealed, p := made(t, k, 9, 20, room[:512])
	if !bytes.Equal(room, sample(600, 17)) {
		t.Error("Seal changes its bytes")
	}
	room = append(bytes.Clone(sealed), 1, 2, 3)
	opened, e := Open(k, p, room[:512])
	if !Fits(p, room[:512]) || e != api.OK || !bytes.Equal(room, append(bytes.Clone(sealed), 1, 2, 3)) {
		t.Error("Open or Fits changes its bytes")
	}
	clear(room)
	if !bytes.Equal(opened, sample(600, 17)[:512]) {
		t.Error("an answer changes with the bytes that were handed in")
	}
}

// P12.1, P12.2: each answer is new memory.
func TestAnswersAreNewMemory(t *testing.T) {
	k, b := sampleKeys(18), sample(512, 18)
	first, p := made(t, k, 9, 20, b)
	second, _ := made(t, k, 9, 20, b)
	clear(first[:cap(first)])
	if !bytes.Equal(second, streamed(t, k, 9, 20, b)) || !bytes.Equal(b, sample(512, 18)) {
		t.Error("an answer of Seal shares memory")
	}
	one, _ := Open(k, p, second)
	two, _ := Open(k, p, second)
	clear(one[:cap(one)])
	if !bytes.Equal(two, b) || !bytes.Equal(second, streamed(t, k, 9, 20, b)) {
		t.Error("an answer of Open shares memory")
	}
}
