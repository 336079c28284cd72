package codec

import (
	"bytes"
	"math"
	"math/bits"
	"math/rand"
	"strings"
	"testing"

	"banyan/api"
)

// sample is that many bytes, others for each seed, none of them 0.
func sample(size, seed int) []byte {
	b := make([]byte, size)
	x := uint32(seed)*2654435761 + 1
	for i := range b {
		x = x*1664525 + 1013904223
		b[i] = byte(x>>24) | 1
	}
	return b
}

// sampleHash is a hash, another for each seed.
func sampleHash(seed int) api.Hash { return api.Hash(sample(32, seed)) }

// numbers are some of all lengths, with the edges of each.
func numbers() []uint64 {
	l := []uint64{0, 0x0102030405060708, 0xFEDCBA9876543210, math.MaxUint64}
	for n := range 64 {
		x := uint64(1) << n
		l = append(l, x-1, x, x+1, 0x9E3779B97F4A7C15>>n)
	}
	return l
}

// ofNumber is a number's last bytes, the highest first, told plainly.
func ofNumber(x uint64, size int) []byte {
	b := make([]byte, size)
	for i := size - 1; i >= 0; i-- {
		b[i] = byte(x % 256)
		x /= 256
	}
	return b
}

// farSizes are sizes that are none, or beyond all bytes that there are.
func farSizes() []int {
	return []int{math.MinInt, math.MinInt + 1, math.MinInt32, -65536, -256, -1, 1 << 32, 1<<32 + 1, 1 << 61, math.MaxInt - 1, math.MaxInt}
}

// errs tells if an error is that one.
func errs(t *testing.T, what string, got, want api.Errno) {
	t.Helper()
	if got != want {
		t.Errorf("%s: error %d, not %d", what, got, want)
	}
}

// has tells if those bytes are all that is laid.
func has(t *testing.T, w *Writer, want []byte) {
	t.Helper()
	if b := w.Bytes(); !bytes.Equal(b, want) {
		t.Errorf("%d bytes are laid, not the %d that are right", len(b), len(want))
	}
}

// writer is one that has those bytes.
func writer(t *testing.T, b []byte) *Writer {
	t.Helper()
	w := &Writer{}
	errs(t, "Raw", w.Raw(b), api.OK)
	return w
}

// left tells if that many bytes aren't read.
func left(t *testing.T, r *Reader, want int) {
	t.Helper()
	if n := r.Left(); n != want {
		t.Errorf("%d bytes are left, not %d", n, want)
	}
}

// gives tells if those bytes, and no more, are read next.
func gives(t *testing.T, r *Reader, want []byte) {
	t.Helper()
	left(t, r, len(want))
	b, e := r.Raw(len(want))
	if e != api.OK || !bytes.Equal(b, want) {
		t.Errorf("error %d, %d bytes, not the ones that are right", e, len(b))
	}
	left(t, r, 0)
}

// P7.1: the chapter's example.
func TestWriterOfTheExample(t *testing.T) {
	var w Writer
	errs(t, "Num", w.Num(258, 2), api.OK)
	errs(t, "Str", w.Str("ab"), api.OK)
	has(t, &w, []byte{1, 2, 2, 97, 98})
}

// P7.1: a zero value has nothing, and takes each thing first.
func TestWriterOfZeros(t *testing.T) {
	var w Writer
	has(t, &w, nil)
	errs(t, "Num", w.Num(7, 1), api.OK)
	has(t, &w, []byte{7})
	w = Writer{}
	errs(t, "Str", w.Str("a"), api.OK)
	has(t, &w, []byte{1, 'a'})
	w = Writer{}
	errs(t, "Hash", w.Hash(sampleHash(1)), api.OK)
	has(t, &w, sample(32, 1))
	w = Writer{}
	errs(t, "Raw", w.Raw([]byte{8}), api.OK)
	has(t, &w, []byte{8})
	w = Writer{}
	errs(t, "Pad", w.Pad(3), api.OK)
	has(t, &w, []byte{0, 0, 0})
	has(t, new(Writer), nil)
}

// P7.1: numbers that fit are laid, others are ErrArg, and nothing is laid.
func TestWriterNum(t *testing.T) {
	for _, x := range numbers() {
		for size := -2; size <= 10; size++ {
			w := writer(t, []byte{5})
			if size >= 0 && size <= 8 && bits.Len64(x) <= 8*size {
				errs(t, "Num", w.Num(x, size), api.OK)
				has(t, w, append([]byte{5}, ofNumber(x, size)...))
			} else {
				errs(t, "Num", w.Num(x, size), api.ErrArg)
				has(t, w, []byte{5})
			}
		}
		for _, size := range farSizes() {
			w := writer(t, []byte{5})
			errs(t, "Num", w.Num(x, size), api.ErrArg)
			has(t, w, []byte{5})
		}
	}
}

// P7.1: a text is its size and its bytes; of more than 255 it is ErrArg, and nothing is laid.
func TestWriterStr(t *testing.T) {
	for size := range 256 {
		b := sample(size, size)
		w := writer(t, []byte{5})
		errs(t, "Str", w.Str(string(b)), api.OK)
		has(t, w, append([]byte{5, byte(size)}, b...))
	}
	for _, size := range []int{256, 257, 300, 511, 512, 513, 65535, 65536, 65537, 65792} {
		w := writer(t, []byte{5})
		errs(t, "Str", w.Str(strings.Repeat("x", size)), api.ErrArg)
		has(t, w, []byte{5})
	}
}

// P7.1: a text's size is that of its bytes, whatever they are.
func TestWriterStrCountsBytes(t *testing.T) {
	for _, s := range []string{"\x00", "\x00\x00\x00", "\xff", "a\x80b", "é", "日本", strings.Repeat("é", 127)} {
		var w Writer
		errs(t, "Str", w.Str(s), api.OK)
		has(t, &w, append([]byte{byte(len(s))}, s...))
	}
	for _, s := range []string{strings.Repeat("é", 128), strings.Repeat("日", 86)} {
		var w Writer
		errs(t, "Str", w.Str(s), api.ErrArg)
		has(t, &w, nil)
	}
}

// P7.1
func TestWriterHash(t *testing.T) {
	var w Writer
	errs(t, "Hash", w.Hash(sampleHash(1)), api.OK)
	errs(t, "Hash", w.Hash(api.Hash{}), api.OK)
	errs(t, "Hash", w.Hash(sampleHash(2)), api.OK)
	has(t, &w, append(append(sample(32, 1), make([]byte, 32)...), sample(32, 2)...))
}

// P7.1
func TestWriterRaw(t *testing.T) {
	var w Writer
	var want []byte
	for _, size := range []int{0, 1, 2, 255, 256, 512, 65536, 100000} {
		b := sample(size, size)
		errs(t, "Raw", w.Raw(b), api.OK)
		want = append(want, b...)
		has(t, &w, want)
	}
	errs(t, "Raw of nil", w.Raw(nil), api.OK)
	has(t, &w, want)
}

// P7.1: what is handed in is neither changed, with the room behind it, nor kept.
func TestWriterRawLeavesItsBytes(t *testing.T) {
	for _, size := range []int{0, 1, 50, 99, 100} {
		all := sample(100, size)
		w := writer(t, all[:size])
		errs(t, "Num", w.Num(0, 1), api.OK)
		errs(t, "Pad", w.Pad(size+2), api.OK)
		if !bytes.Equal(all, sample(100, size)) {
			t.Errorf("%d bytes: changed", size)
		}
		clear(all)
		has(t, w, append(sample(size, size), 0, 0))
		// Bytes laid behind others aren't kept either.
		all = sample(100, size)
		errs(t, "Raw", w.Raw(all[:size]), api.OK)
		clear(all)
		has(t, w, append(append(sample(size, size), 0, 0), sample(size, size)...))
	}
}

// P7.1: noughts, up to each size from what is laid on; fewer are ErrArg, and nothing is laid.
func TestWriterPad(t *testing.T) {
	for _, laid := range []int{0, 1, 2, 31, 511, 512, 513} {
		for _, size := range []int{0, 1, 2, 3, 31, 32, 510, 511, 512, 513, 514, 1000, 65535, 65536} {
			b := sample(laid, size)
			w := writer(t, b)
			if size < laid {
				errs(t, "Pad", w.Pad(size), api.ErrArg)
				has(t, w, b)
			} else {
				errs(t, "Pad", w.Pad(size), api.OK)
				has(t, w, append(b, make([]byte, size-laid)...))
			}
		}
	}
}

// P7.1: sizes that nothing is filled up to.
func TestWriterPadOfWrongSizes(t *testing.T) {
	for _, size := range append(farSizes(), 65537, 65538, 131072) {
		for _, laid := range []int{0, 3} {
			w := writer(t, sample(laid, 1))
			errs(t, "Pad", w.Pad(size), api.ErrArg)
			has(t, w, sample(laid, 1))
		}
	}
}

// P7.1: the bound is on what is filled up to, not on what is laid.
func TestWriterPadAboutItsBound(t *testing.T) {
	for laid, want := range map[int]api.Errno{65535: api.OK, 65536: api.OK, 65537: api.ErrArg} {
		w := writer(t, sample(laid, 1))
		errs(t, "Pad(65536)", w.Pad(65536), want)
		has(t, w, append(sample(laid, 1), make([]byte, max(0, 65536-laid))...))
		errs(t, "Pad(65537)", w.Pad(65537), api.ErrArg)
		errs(t, "Pad(65535)", w.Pad(65535), api.ErrArg)
		errs(t, "Raw", w.Raw([]byte{1}), api.OK)
		has(t, w, append(append(sample(laid, 1), make([]byte, max(0, 65536-laid))...), 1))
	}
}

// P7.1: what is padded with is noughts, whatever room there is.
func TestWriterPadIsNoughts(t *testing.T) {
	w := writer(t, sample(100, 1))
	b := w.Bytes()
	b = append(b, sample(100, 2)...)
	errs(t, "Pad", w.Pad(150), api.OK)
	errs(t, "Num", w.Num(1, 1), api.OK)
	errs(t, "Pad", w.Pad(160), api.OK)
	want := append(sample(100, 1), make([]byte, 60)...)
	want[150] = 1
	has(t, w, want)
	if !bytes.Equal(b[100:], sample(100, 2)) {
		t.Error("an answer was changed")
	}
}

// P7.1: each answer of Bytes is new memory, its spare room too.
func TestWriterBytesAreNewMemory(t *testing.T) {
	for _, size := range []int{0, 1, 5, 32, 100, 1000} {
		w := writer(t, sample(size, 1))
		first, second := w.Bytes(), w.Bytes()
		clear(first[:cap(first)])
		has(t, w, sample(size, 1))
		if !bytes.Equal(second, sample(size, 1)) {
			t.Errorf("%d bytes: one answer changes with another", size)
		}
		errs(t, "Raw", w.Raw(sample(10, 2)), api.OK)
		second = append(second, sample(10, 3)...)
		has(t, w, append(sample(size, 1), sample(10, 2)...))
		if !bytes.Equal(second, append(sample(size, 1), sample(10, 3)...)) {
			t.Errorf("%d bytes: an answer changes with what is laid", size)
		}
	}
}

// P7.1: two writers are apart.
func TestWritersAreApart(t *testing.T) {
	var a, b Writer
	for i := range 100 {
		errs(t, "Raw", a.Raw([]byte{byte(i)}), api.OK)
		errs(t, "Raw", b.Raw([]byte{byte(i), 9}), api.OK)
	}
	for i := range 100 {
		if x, y := a.Bytes()[i], b.Bytes()[2*i]; x != byte(i) || y != byte(i) {
			t.Errorf("place %d: %d and %d", i, x, y)
		}
	}
}

// P7.1: of nil, ErrNil, whatever else is wrong.
func TestWriterOfNil(t *testing.T) {
	var w *Writer
	for _, size := range append(farSizes(), 0, 1, 8, 9, 65536, 65537) {
		errs(t, "Num", w.Num(0, size), api.ErrNil)
		errs(t, "Num", w.Num(math.MaxUint64, size), api.ErrNil)
		errs(t, "Pad", w.Pad(size), api.ErrNil)
	}
	for _, size := range []int{0, 1, 255, 256} {
		errs(t, "Str", w.Str(strings.Repeat("x", size)), api.ErrNil)
		errs(t, "Raw", w.Raw(sample(size, 1)), api.ErrNil)
	}
	errs(t, "Raw of nil", w.Raw(nil), api.ErrNil)
	errs(t, "Hash", w.Hash(api.Hash{}), api.ErrNil)
	if b := w.Bytes(); len(b) != 0 {
		t.Error(b)
	}
}

// P7.2: the chapter's example.
func TestReaderOfTheExample(t *testing.T) {
	r := Read([]byte{1, 2, 2, 97, 98})
	if x, e := r.Num(2); x != 258 || e != api.OK {
		t.Errorf("Num(2): %d, error %d", x, e)
	}
	if s, e := r.Str(); s != "ab" || e != api.OK {
		t.Errorf("Str: %q, error %d", s, e)
	}
	left(t, r, 0)
}

// P7.2: one that Read didn't make, and those of no bytes, have none.
func TestReaderOfNothing(t *testing.T) {
	for i, r := range []*Reader{{}, new(Reader), Read(nil), Read([]byte{})} {
		if r == nil {
			t.Fatalf("%d: nil", i)
		}
		left(t, r, 0)
		errs(t, "End", r.End(), api.OK)
		x, e := r.Num(0)
		errs(t, "Num(0)", e, api.OK)
		b, e := r.Raw(0)
		errs(t, "Raw(0)", e, api.OK)
		y, e := r.Num(1)
		errs(t, "Num(1)", e, api.ErrShort)
		c, e := r.Raw(1)
		errs(t, "Raw(1)", e, api.ErrShort)
		s, e := r.Str()
		errs(t, "Str", e, api.ErrShort)
		h, e := r.Hash()
		errs(t, "Hash", e, api.ErrShort)
		if x != 0 || y != 0 || len(b) != 0 || len(c) != 0 || s != "" || h != (api.Hash{}) {
			t.Errorf("%d: something of no bytes", i)
		}
	}
}

// P7.2: each size of each count of bytes; of an error nothing is read.
func TestReaderNum(t *testing.T) {
	for have := range 12 {
		b := sample(have, have)
		for size := -2; size <= 12; size++ {
			r := Read(b)
			x, e := r.Num(size)
			switch {
			case size < 0 || size > 8:
				errs(t, "Num", e, api.ErrArg)
			case size > have:
				errs(t, "Num", e, api.ErrShort)
			default:
				errs(t, "Num", e, api.OK)
				if !bytes.Equal(ofNumber(x, size), b[:size]) || bits.Len64(x) > 8*size {
					t.Errorf("Num(%d) of %x: %#x", size, b, x)
				}
				gives(t, r, b[size:])
				continue
			}
			if x != 0 {
				t.Errorf("Num(%d): %d beside an error", size, x)
			}
			gives(t, r, b)
		}
		for _, size := range farSizes() {
			r := Read(b)
			x, e := r.Num(size)
			errs(t, "Num", e, api.ErrArg)
			if x != 0 {
				t.Errorf("Num(%d): %d beside an error", size, x)
			}
			gives(t, r, b)
		}
	}
}

// P7.2: numbers one behind the other, the highest byte first.
func TestReaderNumOfExamples(t *testing.T) {
	r := Read([]byte{0, 255, 1, 2, 0, 0, 9, 255, 255, 255, 255, 255, 255, 255, 255, 1, 2, 3, 4, 5, 6, 7, 8, 3})
	for i, c := range []struct {
		size int
		want uint64
	}{{1, 0}, {1, 255}, {0, 0}, {2, 258}, {3, 9}, {8, math.MaxUint64}, {8, 0x0102030405060708}, {0, 0}, {1, 3}, {0, 0}} {
		if x, e := r.Num(c.size); x != c.want || e != api.OK {
			t.Errorf("%d: %#x, error %d", i, x, e)
		}
	}
	left(t, r, 0)
}

// P7.2: each text of each count of bytes; of an error not even its size is read.
func TestReaderStr(t *testing.T) {
	for _, size := range []int{0, 1, 2, 31, 32, 127, 128, 254, 255} {
		for _, have := range []int{0, 1, 2, 30, 31, 32, 126, 127, 128, 253, 254, 255, 256, 300} {
			b := append([]byte{byte(size)}, sample(have, size)...)
			r := Read(b)
			s, e := r.Str()
			if have < size {
				errs(t, "Str", e, api.ErrShort)
				if s != "" {
					t.Errorf("%d bytes beside an error", len(s))
				}
				gives(t, r, b)
			} else {
				errs(t, "Str", e, api.OK)
				if s != string(b[1:1+size]) {
					t.Errorf("size %d of %d: %d bytes, not the ones that are right", size, have, len(s))
				}
				gives(t, r, b[1+size:])
			}
		}
	}
}

// P7.2: a text is bytes, whatever they are.
func TestReaderStrOfAnyBytes(t *testing.T) {
	r := Read([]byte{3, 0, 0, 0, 2, 0xff, 0x80, 1, 0xc3})
	for _, want := range []string{"\x00\x00\x00", "\xff\x80", "\xc3"} {
		if s, e := r.Str(); s != want || e != api.OK {
			t.Errorf("%q, not %q, error %d", s, want, e)
		}
	}
	left(t, r, 0)
}

// P7.2
func TestReaderHash(t *testing.T) {
	for _, have := range []int{0, 1, 31, 32, 33, 63, 64, 100} {
		b := sample(have, have)
		r := Read(b)
		h, e := r.Hash()
		if have < 32 {
			errs(t, "Hash", e, api.ErrShort)
			if h != (api.Hash{}) {
				t.Errorf("of %d bytes: %x beside an error", have, h)
			}
			gives(t, r, b)
		} else {
			errs(t, "Hash", e, api.OK)
			if !bytes.Equal(h[:], b[:32]) {
				t.Errorf("of %d bytes: %x", have, h)
			}
			gives(t, r, b[32:])
		}
	}
}

// P7.2: each count of each; of an error nothing is read.
func TestReaderRaw(t *testing.T) {
	for have := range 20 {
		b := sample(have, have)
		for n := -2; n <= 22; n++ {
			r := Read(b)
			x, e := r.Raw(n)
			switch {
			case n < 0:
				errs(t, "Raw", e, api.ErrArg)
			case n > have:
				errs(t, "Raw", e, api.ErrShort)
			default:
				errs(t, "Raw", e, api.OK)
				if !bytes.Equal(x, b[:n]) {
					t.Errorf("Raw(%d) of %x: %x", n, b, x)
				}
				gives(t, r, b[n:])
				continue
			}
			if len(x) != 0 {
				t.Errorf("Raw(%d): %x beside an error", n, x)
			}
			gives(t, r, b)
		}
	}
}

// P7.2: counts far beyond, from the beginning and from within.
func TestReaderRawOfFarCounts(t *testing.T) {
	r := Read(sample(10, 1))
	for _, had := range []int{0, 3, 7} {
		r.Raw(had)
		for _, n := range farSizes() {
			want := api.ErrShort
			if n < 0 {
				want = api.ErrArg
			}
			x, e := r.Raw(n)
			errs(t, "Raw", e, want)
			if len(x) != 0 {
				t.Errorf("Raw(%d): %x beside an error", n, x)
			}
		}
	}
	left(t, r, 0)
}

// P7.2: all that is left must be noughts, not what was read; nothing is read.
func TestReaderEnd(t *testing.T) {
	for have := range 40 {
		for one := range have + 1 {
			b := make([]byte, have)
			if one < have {
				b[one] = 1 << (one % 8)
			}
			r := Read(b)
			for read := range have + 1 {
				want := api.OK
				if one < have && one >= read {
					want = api.ErrForm
				}
				errs(t, "End", r.End(), want)
				errs(t, "End once more", r.End(), want)
				left(t, r, have-read)
				if x, e := r.Num(1); read < have && (x != uint64(b[read]) || e != api.OK) {
					t.Errorf("Num(1) behind End: %d, error %d", x, e)
				}
			}
		}
	}
}

// P7.2
func TestReaderLeft(t *testing.T) {
	r := Read(sample(100, 1))
	left(t, r, 100)
	for n := range 10 {
		r.Raw(n)
		r.Raw(101)
		r.Num(9)
		left(t, r, 100-n*(n+1)/2)
	}
	left(t, Read(make([]byte, 100000)), 100000)
}

// P7.2: what is handed in is neither changed, with the room behind it, nor kept.
func TestReadLeavesItsBytes(t *testing.T) {
	for _, size := range []int{0, 1, 50, 99, 100} {
		all := sample(100, size)
		r := Read(all[:size])
		b, _ := r.Raw(size / 2)
		clear(b[:cap(b)])
		if !bytes.Equal(all, sample(100, size)) {
			t.Errorf("%d bytes: changed", size)
		}
		clear(all)
		gives(t, r, sample(100, size)[size/2:size])
	}
}

// P7.2: each answer of Raw is new memory, its spare room too.
func TestReaderRawIsNewMemory(t *testing.T) {
	r := Read(sample(100, 1))
	first, _ := r.Raw(30)
	second, _ := r.Raw(30)
	none, _ := r.Raw(0)
	clear(first[:cap(first)])
	clear(none[:cap(none)])
	if !bytes.Equal(second, sample(100, 1)[30:60]) {
		t.Error("one answer changes with another")
	}
	clear(second[:cap(second)])
	gives(t, r, sample(100, 1)[60:])
}

// P7.2: two readers of the same bytes are apart.
func TestReadersAreApart(t *testing.T) {
	b := sample(10, 1)
	x, y := Read(b), Read(b)
	x.Raw(4)
	left(t, y, 10)
	y.Raw(7)
	gives(t, x, b[4:])
	gives(t, y, b[7:])
}

// P7.2: of nil, ErrNil, whatever else is wrong, and zero beside it.
func TestReaderOfNil(t *testing.T) {
	var r *Reader
	for _, size := range append(farSizes(), 0, 1, 8, 9) {
		x, e := r.Num(size)
		errs(t, "Num", e, api.ErrNil)
		b, e := r.Raw(size)
		errs(t, "Raw", e, api.ErrNil)
		if x != 0 || len(b) != 0 {
			t.Errorf("size %d: %d and %x beside an error", size, x, b)
		}
	}
	s, e := r.Str()
	errs(t, "Str", e, api.ErrNil)
	h, e := r.Hash()
	errs(t, "Hash", e, api.ErrNil)
	if s != "" || h != (api.Hash{}) {
		t.Errorf("%q and %x beside an error", s, h)
	}
	errs(t, "End", r.End(), api.ErrNil)
	left(t, r, 0)
}

// thing is what is laid: how, told plainly, and how it is read again.
type thing struct {
	lay  func(w *Writer) api.Errno
	want []byte
	same func(r *Reader) bool
}

// anyNum, anyStr, anyHash and anyRaw are things by chance.
func anyNum(c *rand.Rand) thing {
	size := c.Intn(9)
	x := c.Uint64() >> c.Intn(64)
	if size < 8 {
		x &= 1<<(8*size) - 1
	}
	return thing{
		func(w *Writer) api.Errno { return w.Num(x, size) },
		ofNumber(x, size),
		func(r *Reader) bool { y, e := r.Num(size); return y == x && e == api.OK },
	}
}

func anyStr(c *rand.Rand) thing {
	s := string(sample(c.Intn(256), c.Int()))
	return thing{
		func(w *Writer) api.Errno { return w.Str(s) },
		append([]byte{byte(len(s))}, s...),
		func(r *Reader) bool { x, e := r.Str(); return x == s && e == api.OK },
	}
}

func anyHash(c *rand.Rand) thing {
	h := sampleHash(c.Int())
	return thing{
		func(w *Writer) api.Errno { return w.Hash(h) },
		h[:],
		func(r *Reader) bool { x, e := r.Hash(); return x == h && e == api.OK },
	}
}

func anyRaw(c *rand.Rand) thing {
	b := sample(c.Intn(600), c.Int())
	return thing{
		func(w *Writer) api.Errno { return w.Raw(b) },
		b,
		func(r *Reader) bool { x, e := r.Raw(len(b)); return bytes.Equal(x, b) && e == api.OK },
	}
}

// failWriter and failReader ask for what is refused, whatever is laid or left.
func failWriter(t *testing.T, w *Writer) {
	t.Helper()
	errs(t, "Num", w.Num(256, 1), api.ErrArg)
	errs(t, "Num", w.Num(0, 9), api.ErrArg)
	errs(t, "Str", w.Str(strings.Repeat("x", 256)), api.ErrArg)
	errs(t, "Pad", w.Pad(-1), api.ErrArg)
	errs(t, "Pad", w.Pad(65537), api.ErrArg)
}

func failReader(t *testing.T, r *Reader) {
	t.Helper()
	_, e := r.Num(9)
	errs(t, "Num", e, api.ErrArg)
	_, e = r.Raw(-1)
	errs(t, "Raw", e, api.ErrArg)
	_, e = r.Raw(r.Left() + 1)
	errs(t, "Raw", e, api.ErrShort)
}

// P7.3: things by chance, among ones that are refused, and noughts behind them all.
func TestWhatIsLaidIsRead(t *testing.T) {
	c := rand.New(rand.NewSource(7))
	kinds := []func(*rand.Rand) thing{anyNum, anyStr, anyHash, anyRaw}
	for run := range 300 {
		var w Writer
		var want []byte
		things := make([]thing, c.Intn(30))
		for i := range things {
			things[i] = kinds[c.Intn(len(kinds))](c)
			errs(t, "laid", things[i].lay(&w), api.OK)
			want = append(want, things[i].want...)
			failWriter(t, &w)
		}
		noughts := c.Intn(100)
		errs(t, "Pad", w.Pad(len(want)+noughts), api.OK)
		want = append(want, make([]byte, noughts)...)
		has(t, &w, want)
		r := Read(w.Bytes())
		for i, x := range things {
			if !x.same(r) {
				t.Fatalf("run %d, thing %d: not as it was laid", run, i)
			}
			failReader(t, r)
		}
		left(t, r, noughts)
		errs(t, "End", r.End(), api.OK)
	}
}

// P7.3: numbers of all sizes, each as it was.
func TestNumbersLaidAreRead(t *testing.T) {
	for _, x := range numbers() {
		for size := (bits.Len64(x) + 7) / 8; size <= 8; size++ {
			var w Writer
			errs(t, "Num", w.Num(x, size), api.OK)
			r := Read(w.Bytes())
			if y, e := r.Num(size); y != x || e != api.OK {
				t.Errorf("%#x in %d bytes: %#x, error %d", x, size, y, e)
			}
			left(t, r, 0)
		}
	}
}
