package ptr

import (
	"bytes"
	"math"
	"math/rand"
	"slices"
	"testing"

	"banyan/api"
	"banyan/codec"
)

// sample is a hash, another for each seed, none of its bytes 0.
func sample(seed int) api.Hash {
	var h api.Hash
	x := uint32(seed)*2654435761 + 1
	for i := range h {
		x = x*1664525 + 1013904223
		h[i] = byte(x>>24) | 1
	}
	return h
}

// hashWith is a hash of noughts but for one byte.
func hashWith(place int, b byte) api.Hash {
	var h api.Hash
	h[place] = b
	return h
}

// edges are pointers whose fields are at their ends, each with each.
func edges() []api.Ptr {
	var l []api.Ptr
	for _, addr := range []uint32{0, 1, 2, 255, 256, 65536, 0x01020304, 1<<31 - 1, 1 << 31, math.MaxUint32} {
		for _, birth := range []uint64{0, 1, 255, 256, math.MaxUint32, 1 << 32, 0x0102030405060708, 1 << 63, math.MaxUint64} {
			for _, sum := range []api.Hash{{}, hashWith(0, 1), hashWith(31, 255), sample(1)} {
				l = append(l, api.Ptr{Addr: addr, Birth: birth, Sum: sum})
			}
		}
	}
	return l
}

// anyPtr is a pointer by chance.
func anyPtr(c *rand.Rand) api.Ptr {
	return api.Ptr{Addr: c.Uint32() >> c.Intn(32), Birth: c.Uint64() >> c.Intn(64), Sum: sample(c.Int())}
}

// ofPtr is a pointer's bytes, told plainly.
func ofPtr(p api.Ptr) []byte {
	b := make([]byte, 44)
	for i := range 4 {
		b[3-i] = byte(p.Addr >> (8 * i))
	}
	for i := range 8 {
		b[11-i] = byte(p.Birth >> (8 * i))
	}
	copy(b[12:], p.Sum[:])
	return b
}

// errs tells if an error is that one.
func errs(t *testing.T, what string, got, want api.Errno) {
	t.Helper()
	if got != want {
		t.Errorf("%s: error %d, not %d", what, got, want)
	}
}

// has tells if those bytes are all that is laid.
func has(t *testing.T, w *codec.Writer, want []byte) {
	t.Helper()
	if b := w.Bytes(); !bytes.Equal(b, want) {
		t.Errorf("laid: %x, not %x", b, want)
	}
}

// gives tells if those bytes, and no more, are read next.
func gives(t *testing.T, r *codec.Reader, want []byte) {
	t.Helper()
	b, e := r.Raw(r.Left())
	if e != api.OK || !bytes.Equal(b, want) {
		t.Errorf("error %d, left: %x, not %x", e, b, want)
	}
}

// P8.1: the chapter's example.
func TestPutOfTheExample(t *testing.T) {
	var w codec.Writer
	errs(t, "Put", Put(&w, api.Ptr{Addr: 3, Birth: 5}), api.OK)
	has(t, &w, append([]byte{0, 0, 0, 3, 0, 0, 0, 0, 0, 0, 0, 5}, make([]byte, 32)...))
}

// P8.1: each field has its bytes, the highest first, whether the pointer may be or not.
func TestPutOfEdges(t *testing.T) {
	for _, p := range edges() {
		var w codec.Writer
		errs(t, "Put", Put(&w, p), api.OK)
		has(t, &w, ofPtr(p))
	}
}

// P8.1: pointers are laid behind what is laid.
func TestPutLaysBehind(t *testing.T) {
	var w codec.Writer
	want := []byte{7, 8, 9}
	errs(t, "Raw", w.Raw(want), api.OK)
	for _, p := range edges() {
		errs(t, "Put", Put(&w, p), api.OK)
		want = append(want, ofPtr(p)...)
	}
	has(t, &w, want)
}

// P8.1
func TestPutOfNil(t *testing.T) {
	for _, p := range edges() {
		errs(t, "Put", Put(nil, p), api.ErrNil)
	}
}

// P8.1: each field is got of its bytes, the highest first.
func TestGetOfEdges(t *testing.T) {
	for _, p := range edges() {
		r := codec.Read(ofPtr(p))
		q, e := Get(r)
		if q != p || e != api.OK {
			t.Errorf("%v, error %d, not %v", q, e, p)
		}
		gives(t, r, nil)
	}
}

// P8.1: each count of bytes, each part of them read ahead; of too few nothing is read.
func TestGetOfEachCount(t *testing.T) {
	p := api.Ptr{Addr: 0x11121314, Birth: 0x2122232425262728, Sum: sample(3)}
	for ahead := range 5 {
		for size := range 100 {
			b := append(ofPtr(p), bytes.Repeat([]byte{9}, 100)...)[:size]
			r := codec.Read(append(bytes.Repeat([]byte{200}, ahead), b...))
			r.Raw(ahead)
			q, e := Get(r)
			if size < 44 {
				errs(t, "Get", e, api.ErrShort)
				if q != (api.Ptr{}) {
					t.Errorf("of %d bytes: %v beside an error", size, q)
				}
				gives(t, r, b)
			} else {
				errs(t, "Get", e, api.OK)
				if q != p {
					t.Errorf("of %d bytes: %v", size, q)
				}
				gives(t, r, b[44:])
			}
		}
	}
}

// P8.1: of no Reader ErrNil, of one that has nothing ErrShort.
func TestGetOfNothing(t *testing.T) {
	for _, c := range []struct {
		r    *codec.Reader
		want api.Errno
	}{{nil, api.ErrNil}, {&codec.Reader{}, api.ErrShort}, {codec.Read(nil), api.ErrShort}} {
		p, e := Get(c.r)
		errs(t, "Get", e, c.want)
		if p != (api.Ptr{}) {
			t.Errorf("%v beside an error", p)
		}
	}
}

// sizes are those of devices, the ends of what there is, and what no device has.
func sizes() []int {
	return []int{math.MinInt, math.MinInt + 1, math.MinInt32, -1 << 32, -16, -3, -2, -1, 0, 1, 2, 3, 4, 15, 16, 17, 4095, 4096, 4097,
		math.MaxInt32, 1 << 31, math.MaxUint32, 1 << 32, 1<<32 + 3, 1<<32 + 16, math.MaxInt - 1, math.MaxInt}
}

// P8.1: a null one has nothing else, on whatever device.
func TestCheckOfNull(t *testing.T) {
	for _, size := range sizes() {
		errs(t, "Check", Check(api.Ptr{}, size), api.OK)
		for _, birth := range []uint64{1, 2, 1 << 32, 1 << 63, math.MaxUint64} {
			errs(t, "Check of a birth", Check(api.Ptr{Birth: birth}, size), api.ErrForm)
			errs(t, "Check of both", Check(api.Ptr{Birth: birth, Sum: sample(1)}, size), api.ErrForm)
		}
		for place := range 32 {
			for _, b := range []byte{1, 128, 255} {
				errs(t, "Check of a sum", Check(api.Ptr{Sum: hashWith(place, b)}, size), api.ErrForm)
			}
		}
	}
}

// P8.1: another one leads behind the ubers, below the size, and was born.
func TestCheckOfOthers(t *testing.T) {
	for _, size := range sizes() {
		for _, addr := range []uint32{1, 2, 3, 4, 14, 15, 16, 17, 4094, 4095, 4096, 4097, 1<<31 - 1, 1 << 31, 1<<31 + 1, math.MaxUint32 - 1, math.MaxUint32} {
			for _, birth := range []uint64{0, 1, 1 << 32, 1 << 63, math.MaxUint64} {
				for _, sum := range []api.Hash{{}, hashWith(0, 1), hashWith(31, 1), sample(1)} {
					want := api.ErrForm
					if addr > 1 && int64(addr) < int64(size) && birth > 0 {
						want = api.OK
					}
					if e := Check(api.Ptr{Addr: addr, Birth: birth, Sum: sum}, size); e != want {
						t.Errorf("address %d, birth %d, size %d: error %d, not %d", addr, birth, size, e, want)
					}
				}
			}
		}
	}
}

// P8.1: examples, each end of what may be by itself.
func TestCheckOfExamples(t *testing.T) {
	for i, c := range []struct {
		p    api.Ptr
		size int
		want api.Errno
	}{
		{api.Ptr{Addr: 1, Birth: 1}, 16, api.ErrForm},
		{api.Ptr{Addr: 2, Birth: 1}, 16, api.OK},
		{api.Ptr{Addr: 15, Birth: 1}, 16, api.OK},
		{api.Ptr{Addr: 16, Birth: 1}, 16, api.ErrForm},
		{api.Ptr{Addr: 2, Birth: 0}, 16, api.ErrForm},
		{api.Ptr{Addr: 2, Birth: 0, Sum: sample(1)}, 16, api.ErrForm},
		{api.Ptr{Addr: 2, Birth: 1}, 2, api.ErrForm},
		{api.Ptr{Addr: 2, Birth: 1}, 3, api.OK},
		{api.Ptr{Addr: 4095, Birth: 9}, 4096, api.OK},
		{api.Ptr{Addr: 4096, Birth: 9}, 4096, api.ErrForm},
		{api.Ptr{Addr: math.MaxUint32, Birth: 9}, 4096, api.ErrForm},
		{api.Ptr{Addr: 2, Birth: 1}, -1, api.ErrForm},
		{api.Ptr{Addr: 2, Birth: 1}, math.MinInt, api.ErrForm},
	} {
		if e := Check(c.p, c.size); e != c.want {
			t.Errorf("%d: error %d, not %d", i, e, c.want)
		}
	}
}

// P8.1: the address alone tells.
func TestNull(t *testing.T) {
	for _, p := range edges() {
		if Null(p) != (p.Addr == 0) {
			t.Errorf("Null(%v): %t", p, Null(p))
		}
	}
}

// is tells if a pointer has that count, and that many have one.
func is(t *testing.T, c *Counts, p api.Ptr, count, pointers int) {
	t.Helper()
	if c.Of(p) != count || c.Len() != pointers {
		t.Errorf("counted %d times, of %d; not %d, of %d", c.Of(p), c.Len(), count, pointers)
	}
}

// adds and drops tell if it is that count then.
func adds(t *testing.T, c *Counts, p api.Ptr, want int) {
	t.Helper()
	if n := c.Add(p); n != want {
		t.Errorf("Add: %d, not %d", n, want)
	}
}

func drops(t *testing.T, c *Counts, p api.Ptr, want int, wantErr api.Errno) {
	t.Helper()
	if n, e := c.Drop(p); n != want || e != wantErr {
		t.Errorf("Drop: %d, error %d; not %d, error %d", n, e, want, wantErr)
	}
}

// these tells if those pointers are all, in that order.
func these(t *testing.T, c *Counts, want ...api.Ptr) {
	t.Helper()
	if l := c.All(); !slices.Equal(l, want) {
		t.Errorf("%v, not %v", l, want)
	}
	if c.Len() != len(want) {
		t.Errorf("Len: %d, not %d", c.Len(), len(want))
	}
}

// P8.2: of a new one all counts are 0; one of zeros is as a new one.
func TestNewCountsNothing(t *testing.T) {
	for _, c := range []*Counts{New(), {}} {
		if c == nil {
			t.Fatal("nil")
		}
		these(t, c)
		for _, p := range edges() {
			is(t, c, p, 0, 0)
			drops(t, c, p, 0, api.ErrNone)
		}
		these(t, c)
		adds(t, c, api.Ptr{Addr: 3}, 1)
		these(t, c, api.Ptr{Addr: 3})
	}
}

// P8.2: up, down, and up once more; what Drop refuses changes nothing.
func TestCountsUpAndDown(t *testing.T) {
	c := New()
	p := api.Ptr{Addr: 7, Birth: 8, Sum: sample(9)}
	for range 3 {
		for n := range 20 {
			is(t, c, p, n, min(n, 1))
			adds(t, c, p, n+1)
		}
		these(t, c, p)
		for n := 20; n > 0; n-- {
			is(t, c, p, n, 1)
			drops(t, c, p, n-1, api.OK)
		}
		for range 3 {
			drops(t, c, p, 0, api.ErrNone)
			is(t, c, p, 0, 0)
			these(t, c)
		}
	}
}

// P8.2: what is asked counts nothing.
func TestAskingCountsNothing(t *testing.T) {
	c := New()
	a, b := api.Ptr{Addr: 1}, api.Ptr{Addr: 2}
	adds(t, c, a, 1)
	for range 3 {
		is(t, c, b, 0, 1)
		is(t, c, a, 1, 1)
		drops(t, c, b, 0, api.ErrNone)
		these(t, c, a)
	}
	adds(t, c, b, 1)
	these(t, c, a, b)
}

// P8.2: any pointer is counted, be it null, or one that may not be.
func TestAnyPointerIsCounted(t *testing.T) {
	c := New()
	for i, p := range edges() {
		adds(t, c, p, 1)
		adds(t, c, p, 2)
		is(t, c, p, 2, i+1)
	}
	for i, p := range edges() {
		drops(t, c, p, 1, api.OK)
		is(t, c, p, 1, len(edges()))
		if i%2 == 0 {
			drops(t, c, p, 0, api.OK)
			adds(t, c, p, 1)
		}
	}
}

// rising are pointers in order: numbers by what they are, hashes byte by byte.
func rising() []api.Ptr {
	return []api.Ptr{
		{},
		{Sum: hashWith(31, 1)},
		{Sum: hashWith(31, 255)},
		{Sum: hashWith(30, 1)},
		{Sum: hashWith(0, 1)},
		{Sum: hashWith(0, 127)},
		{Sum: hashWith(0, 128)},
		{Sum: hashWith(0, 255)},
		{Birth: 1},
		{Birth: 1, Sum: hashWith(31, 1)},
		{Birth: 2},
		{Birth: 255, Sum: hashWith(0, 255)},
		{Birth: 256},
		{Birth: math.MaxUint32},
		{Birth: 1 << 32},
		{Birth: 1<<63 - 1, Sum: hashWith(0, 255)},
		{Birth: 1 << 63},
		{Birth: math.MaxUint64, Sum: sample(1)},
		{Addr: 1},
		{Addr: 2, Birth: 9, Sum: hashWith(5, 9)},
		{Addr: 3, Birth: 8, Sum: hashWith(5, 8)},
		{Addr: 4, Birth: 7, Sum: hashWith(5, 8)},
		{Addr: 255, Birth: math.MaxUint64},
		{Addr: 256},
		{Addr: 1<<31 - 1, Birth: math.MaxUint64, Sum: sample(1)},
		{Addr: 1 << 31},
		{Addr: math.MaxUint32},
		{Addr: math.MaxUint32, Birth: math.MaxUint64, Sum: sample(1)},
	}
}

// P8.2: all, in order, whichever came first, and however often.
func TestAllRises(t *testing.T) {
	want := rising()
	ways := rand.New(rand.NewSource(8))
	for run := range 200 {
		c := New()
		for _, i := range ways.Perm(len(want)) {
			for n := range 1 + ways.Intn(3) {
				adds(t, c, want[i], n+1)
			}
		}
		these(t, c, want...)
		// The ones in between are dropped, and come once more.
		var left []api.Ptr
		for i, p := range want {
			if (i+run)%3 == 0 {
				left = append(left, p)
				continue
			}
			for c.Of(p) > 0 {
				c.Drop(p)
			}
		}
		these(t, c, left...)
		for _, p := range want {
			c.Add(p)
		}
		these(t, c, want...)
	}
}

// P8.2: each two by themselves, in either order.
func TestAllOfTwo(t *testing.T) {
	l := rising()
	for i := range l {
		for j := range i {
			c, d := New(), New()
			c.Add(l[i])
			c.Add(l[j])
			d.Add(l[j])
			d.Add(l[i])
			these(t, c, l[j], l[i])
			these(t, d, l[j], l[i])
		}
	}
}

// P8.2: each answer of All is new memory, its spare room too.
func TestAllIsNewMemory(t *testing.T) {
	c := New()
	for i := range 5 {
		c.Add(api.Ptr{Addr: uint32(i + 1)})
	}
	first, second := c.All(), c.All()
	clear(first[:cap(first)])
	for i, p := range second {
		if p != (api.Ptr{Addr: uint32(i + 1)}) {
			t.Error("one answer changes with another")
		}
	}
	these(t, c, second...)
	kept := slices.Clone(second)
	c.Add(api.Ptr{Addr: 9})
	c.Drop(api.Ptr{Addr: 1})
	if !slices.Equal(second, kept) {
		t.Error("an answer changes with the counts")
	}
}

// P8.2: two of them are apart.
func TestCountsAreApart(t *testing.T) {
	c, d := New(), New()
	p := api.Ptr{Addr: 5, Birth: 5}
	adds(t, c, p, 1)
	is(t, d, p, 0, 0)
	drops(t, d, p, 0, api.ErrNone)
	adds(t, d, p, 1)
	adds(t, d, p, 2)
	drops(t, c, p, 0, api.OK)
	is(t, d, p, 2, 1)
	these(t, c)
	these(t, d, p)
}

// P8.2: of nil ErrNil where there is an error, else zero.
func TestCountsOfNil(t *testing.T) {
	var c *Counts
	for _, p := range edges() {
		adds(t, c, p, 0)
		drops(t, c, p, 0, api.ErrNil)
		is(t, c, p, 0, 0)
	}
	these(t, c)
}

// P8.2: long runs, beside counts of each pointer that are told plainly.
func TestCountsByChance(t *testing.T) {
	chance := rand.New(rand.NewSource(2))
	for range 50 {
		pointers := rising()
		counts := make([]int, len(pointers))
		c := New()
		for range 2000 {
			i := chance.Intn(len(pointers))
			if p := pointers[i]; chance.Intn(2) == 0 {
				counts[i]++
				adds(t, c, p, counts[i])
			} else if counts[i] == 0 {
				drops(t, c, p, 0, api.ErrNone)
			} else {
				counts[i]--
				drops(t, c, p, counts[i], api.OK)
			}
		}
		var want []api.Ptr
		for i, p := range pointers {
			if counts[i] > 0 {
				want = append(want, p)
			}
		}
		these(t, c, want...)
		for i, p := range pointers {
			is(t, c, p, counts[i], len(want))
		}
	}
}

// P8.2: as many pointers as a device may have sectors, and more.
func TestCountsOfMany(t *testing.T) {
	c := New()
	const many = 20000
	for i := range many {
		// An odd factor has each of the 2^15 numbers once.
		adds(t, c, api.Ptr{Addr: uint32(i*12345) % (1 << 15), Birth: 1}, 1)
	}
	l := c.All()
	if len(l) != many || c.Len() != many {
		t.Fatalf("%d and %d, not %d", len(l), c.Len(), many)
	}
	for i := range many - 1 {
		if l[i].Addr >= l[i+1].Addr {
			t.Fatalf("place %d: %d ahead of %d", i, l[i].Addr, l[i+1].Addr)
		}
	}
	for _, p := range l {
		drops(t, c, p, 0, api.OK)
	}
	these(t, c)
}

// P8.3: what is put is got, one behind the other.
func TestWhatIsPutIsGot(t *testing.T) {
	chance := rand.New(rand.NewSource(3))
	var w codec.Writer
	l := edges()
	for range 2000 {
		l = append(l, anyPtr(chance))
	}
	for _, p := range l {
		errs(t, "Put", Put(&w, p), api.OK)
	}
	r := codec.Read(w.Bytes())
	for i, p := range l {
		if q, e := Get(r); q != p || e != api.OK {
			t.Fatalf("%d: %v, error %d, not %v", i, q, e, p)
		}
	}
	gives(t, r, nil)
}

// P8.3: any 44 bytes are a pointer's, and it is put as them.
func TestWhatIsGotIsPut(t *testing.T) {
	chance := rand.New(rand.NewSource(4))
	for range 2000 {
		b := make([]byte, 44)
		chance.Read(b)
		p, e := Get(codec.Read(b))
		errs(t, "Get", e, api.OK)
		var w codec.Writer
		errs(t, "Put", Put(&w, p), api.OK)
		has(t, &w, b)
	}
}

// P8.3: pointers that differ in a single bit, wherever it is, are counted apart.
func TestCountsAreOfWholePointers(t *testing.T) {
	c := New()
	p := api.Ptr{Addr: 5, Birth: 6, Sum: sample(7)}
	for range 3 {
		c.Add(p)
	}
	for bit := range 8 * 44 {
		b := ofPtr(p)
		b[bit/8] ^= 1 << (bit % 8)
		q, _ := Get(codec.Read(b))
		is(t, c, q, 0, bit+1)
		drops(t, c, q, 0, api.ErrNone)
		adds(t, c, q, 1)
		is(t, c, q, 1, bit+2)
	}
	is(t, c, p, 3, 8*44+1)
	drops(t, c, p, 2, api.OK)
}

// P8.3: two of one address, that differ in birth or sum.
func TestTwoOfOneAddress(t *testing.T) {
	a, b, s := api.Ptr{Addr: 5, Birth: 1}, api.Ptr{Addr: 5, Birth: 2}, api.Ptr{Addr: 5, Birth: 1, Sum: hashWith(0, 1)}
	c := New()
	adds(t, c, b, 1)
	adds(t, c, a, 1)
	adds(t, c, a, 2)
	adds(t, c, s, 1)
	these(t, c, a, s, b)
	drops(t, c, b, 0, api.OK)
	these(t, c, a, s)
	is(t, c, a, 2, 2)
	is(t, c, s, 1, 2)
}
