package num

import (
	"bytes"
	"math"
	"math/big"
	"math/bits"
	"testing"

	"banyan/api"
)

// samples are numbers of all lengths, with the edges of each: 2^n - 1, 2^n, 2^n + 1, and mixed bits.
func samples() []uint64 {
	l := []uint64{0, math.MaxUint64, 0x0123456789ABCDEF, 0xFEDCBA9876543210}
	for n := range 64 {
		x := uint64(1) << n
		l = append(l, x-1, x, x+1, 0x9E3779B97F4A7C15>>n)
	}
	return l
}

// turnOnce is what a turn by one place is, by its bits' places.
func turnOnce(x uint32) uint32 {
	var y uint32
	for i := range 32 {
		if x&(1<<i) != 0 {
			y |= 1 << ((i + 1) % 32)
		}
	}
	return y
}

// P1.1
func TestTurnMovesBitsRound(t *testing.T) {
	for _, x := range []uint32{0, 1, 1 << 31, 0x80000001, 0x12345678, math.MaxUint32, 0xDEADBEEF} {
		want := x
		for n := range 100 {
			if y := Turn(x, n); y != want {
				t.Errorf("Turn(%#x, %d): %#x, not %#x", x, n, y, want)
			}
			if y := Turn(want, -n); y != x {
				t.Errorf("Turn(%#x, %d): %#x, not %#x", want, -n, y, x)
			}
			want = turnOnce(want)
		}
	}
}

// P1.1
func TestTurnOfExamples(t *testing.T) {
	for _, c := range []struct {
		x    uint32
		n    int
		want uint32
	}{
		{1, -1, 0x80000000},
		{1, 0, 1},
		{1, 31, 0x80000000},
		{0x80000000, 1, 1},
		{0x12345678, 8, 0x34567812},
		{0x12345678, -8, 0x78123456},
		{5, 32, 5},
		{5, -32, 5},
		{5, -33, 0x80000002},
		{3, math.MaxInt, 0x80000001},
		{3, math.MinInt, 3},
		{3, math.MinInt + 1, 6},
	} {
		if y := Turn(c.x, c.n); y != c.want {
			t.Errorf("Turn(%#x, %d): %#x, not %#x", c.x, c.n, y, c.want)
		}
	}
}

// P1.1
func TestTopIsTheHighestPlace(t *testing.T) {
	if n := Top(0); n != -1 {
		t.Errorf("Top(0): %d", n)
	}
	for n := range 64 {
		low := uint64(1) << n
		for _, x := range []uint64{low, low | 1, low | low>>1, low<<1 - 1} {
			if y := Top(x); y != n {
				t.Errorf("Top(%#x): %d, not %d", x, y, n)
			}
		}
	}
}

// P1.2
func TestPutOfExamples(t *testing.T) {
	for _, c := range []struct {
		x    uint64
		size int
		want []byte
	}{
		{0, 0, nil},
		{0, 1, []byte{0}},
		{255, 1, []byte{255}},
		{258, 2, []byte{1, 2}},
		{258, 3, []byte{0, 1, 2}},
		{65535, 2, []byte{255, 255}},
		{0, 8, make([]byte, 8)},
		{0x0102030405060708, 8, []byte{1, 2, 3, 4, 5, 6, 7, 8}},
		{math.MaxUint64, 8, bytes.Repeat([]byte{255}, 8)},
	} {
		b, e := Put(c.x, c.size)
		if e != api.OK || !bytes.Equal(b, c.want) {
			t.Errorf("Put(%d, %d): %v, %d", c.x, c.size, b, e)
		}
	}
}

// P1.2
func TestPutTakesWhatFits(t *testing.T) {
	for _, x := range samples() {
		for size := -2; size <= 10; size++ {
			want := api.ErrArg
			if size >= 0 && size <= 8 && bits.Len64(x) <= 8*size {
				want = api.OK
			}
			b, e := Put(x, size)
			if e != want {
				t.Errorf("Put(%d, %d): error %d, not %d", x, size, e, want)
			}
			if e == api.OK && len(b) != size || e != api.OK && b != nil {
				t.Errorf("Put(%d, %d): %v beside error %d", x, size, b, e)
			}
		}
		for _, size := range []int{math.MinInt, math.MinInt / 8, math.MaxInt / 8, math.MaxInt} {
			if b, e := Put(x, size); e != api.ErrArg || b != nil {
				t.Errorf("Put(%d, %d): %v, %d", x, size, b, e)
			}
		}
	}
}

// P1.2
func TestPutAnswersNewMemory(t *testing.T) {
	a, _ := Put(258, 2)
	b, _ := Put(258, 2)
	clear(a[:cap(a)])
	if !bytes.Equal(b, []byte{1, 2}) {
		t.Errorf("of two answers one was changed by the other: %v", b)
	}
}

// P1.2
func TestGetIsTheBytesNumber(t *testing.T) {
	for _, c := range []struct {
		b    []byte
		want uint64
	}{
		{nil, 0},
		{[]byte{}, 0},
		{[]byte{7}, 7},
		{[]byte{1, 2}, 258},
		{[]byte{0, 0, 1, 2}, 258},
		{[]byte{1, 0, 0, 0, 0}, 1 << 32},
		{make([]byte, 8), 0},
		{[]byte{0x80, 0, 0, 0, 0, 0, 0, 1}, 1<<63 + 1},
		{bytes.Repeat([]byte{255}, 8), math.MaxUint64},
	} {
		if x, e := Get(c.b); x != c.want || e != api.OK {
			t.Errorf("Get(%v): %d, %d", c.b, x, e)
		}
	}
}

// P1.2
func TestGetOfTooManyBytes(t *testing.T) {
	for _, n := range []int{9, 10, 16, 1000} {
		for _, c := range []byte{0, 1, 255} {
			if x, e := Get(bytes.Repeat([]byte{c}, n)); x != 0 || e != api.ErrArg {
				t.Errorf("Get of %d bytes %d: %d, %d", n, c, x, e)
			}
		}
	}
}

// P1.2
func TestGetLeavesItsBytes(t *testing.T) {
	all := []byte{1, 2, 3, 4, 5, 6, 7, 8, 9}
	for _, b := range [][]byte{all[:3], all[:8], all} {
		Get(b)
	}
	if !bytes.Equal(all, []byte{1, 2, 3, 4, 5, 6, 7, 8, 9}) {
		t.Errorf("changed: %v", all)
	}
}

// P1.2
func TestNarrowTakesWhatFits(t *testing.T) {
	for bits := 0; bits <= 63; bits++ {
		most := int(uint64(1)<<bits - 1)
		for _, x := range []int{0, most / 2, most} {
			if y, e := Narrow(x, bits); y != uint64(x) || e != api.OK {
				t.Errorf("Narrow(%d, %d): %d, %d", x, bits, y, e)
			}
		}
		for _, x := range []int{most + 1, -1, -most, math.MinInt, math.MinInt + 1} { // of 63 bits most + 1 wraps round
			if bits == 0 && x == 0 {
				continue
			}
			if y, e := Narrow(x, bits); y != 0 || e != api.ErrArg {
				t.Errorf("Narrow(%d, %d): %d, %d", x, bits, y, e)
			}
		}
	}
}

// P1.2
func TestNarrowToWrongBits(t *testing.T) {
	for _, bits := range []int{math.MinInt, -64, -1, 64, 65, 128, math.MaxInt} {
		for _, x := range []int{0, 1, -1, math.MaxInt, math.MinInt} {
			if y, e := Narrow(x, bits); y != 0 || e != api.ErrArg {
				t.Errorf("Narrow(%d, %d): %d, %d", x, bits, y, e)
			}
		}
	}
}

// P1.3: but for the last one these are known as SHA-256's numbers.
func TestFracOfExamples(t *testing.T) {
	for _, c := range []struct {
		p    uint32
		k    int
		want uint32
	}{
		{2, 2, 0x6A09E667},
		{3, 2, 0xBB67AE85},
		{19, 2, 0x5BE0CD19},
		{2, 3, 0x428A2F98},
		{3, 3, 0x71374491},
		{311, 3, 0xC67178F2},
		{65535, 2, 0xFF7FFFDF},
	} {
		if y, e := Frac(c.p, c.k); y != c.want || e != api.OK {
			t.Errorf("Frac(%d, %d): %#x, %d, not %#x", c.p, c.k, y, e, c.want)
		}
	}
}

// wholeRoot is the whole part of the k-th root of p.
func wholeRoot(p uint32, k int) int64 {
	r := int64(0)
	for {
		next := int64(1)
		for range k {
			next *= r + 1
		}
		if next > int64(p) {
			return r
		}
		r++
	}
}

// P1.3: with the root's whole part ahead, the answer to the k-th is at most p 2^(32 k), that of one more is above.
func TestFracIsTheWholePart(t *testing.T) {
	one := big.NewInt(1)
	for k := 2; k <= 3; k++ {
		exponent := big.NewInt(int64(k))
		for p := uint32(1); p <= 65535; p++ {
			y, e := Frac(p, k)
			root := big.NewInt(wholeRoot(p, k))
			root.Lsh(root, 32).Add(root, big.NewInt(int64(y)))
			goal := new(big.Int).Lsh(big.NewInt(int64(p)), uint(32*k))
			low := new(big.Int).Exp(root, exponent, nil)
			high := new(big.Int).Exp(root.Add(root, one), exponent, nil)
			if e != api.OK || low.Cmp(goal) > 0 || high.Cmp(goal) <= 0 {
				t.Fatalf("Frac(%d, %d): %#x, %d", p, k, y, e)
			}
		}
	}
}

// P1.3
func TestFracOfWrongNumbers(t *testing.T) {
	for _, p := range []uint32{0, 65536, 65537, 1 << 31, math.MaxUint32} {
		for _, k := range []int{2, 3} {
			if y, e := Frac(p, k); y != 0 || e != api.ErrArg {
				t.Errorf("Frac(%d, %d): %d, %d", p, k, y, e)
			}
		}
	}
	for _, k := range []int{math.MinInt, -2, -1, 0, 1, 4, 5, 1<<32 + 2, math.MaxInt} {
		for _, p := range []uint32{0, 1, 2, 65535, 65536} {
			if y, e := Frac(p, k); y != 0 || e != api.ErrArg {
				t.Errorf("Frac(%d, %d): %d, %d", p, k, y, e)
			}
		}
	}
}

// P1.4
func TestWhatIsPutIsGot(t *testing.T) {
	for _, x := range samples() {
		for size := (bits.Len64(x) + 7) / 8; size <= 8; size++ {
			b, e := Put(x, size)
			y, f := Get(b)
			if e != api.OK || f != api.OK || y != x {
				t.Errorf("put %d in %d bytes, got %d: errors %d, %d", x, size, y, e, f)
			}
		}
	}
}

// P1.4
func TestOppositeTurnsAreNone(t *testing.T) {
	for _, x := range []uint32{0, 1, 0x80000000, 0x12345678, math.MaxUint32} {
		for _, n := range []int{0, 1, 5, 31, 32, 33, 63, 64, 1000, math.MaxInt} {
			if y := Turn(Turn(x, n), -n); y != x {
				t.Errorf("%#x by %d and back: %#x", x, n, y)
			}
			if y := Turn(Turn(x, -n), n); y != x {
				t.Errorf("%#x by %d and back: %#x", x, -n, y)
			}
		}
	}
}

// P1.4
func TestWholeRootsHaveNothingBehind(t *testing.T) {
	for k, most := range map[int]uint32{2: 255, 3: 40} {
		for r := uint32(1); r <= most; r++ {
			p := r
			for range k - 1 {
				p *= r
			}
			if y, e := Frac(p, k); y != 0 || e != api.OK {
				t.Errorf("Frac(%d, %d): %#x, %d", p, k, y, e)
			}
		}
	}
}
