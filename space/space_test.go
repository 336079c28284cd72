package space

import (
	"fmt"
	"math"
	"math/rand"
	"slices"
	"testing"

	"banyan/api"
)

// made is a new space.
func made(t *testing.T, size int) *Space {
	t.Helper()
	s, e := New(size)
	if e != api.OK || s == nil {
		t.Fatalf("New(%d): error %d", size, e)
	}
	return s
}

// errs tells if an error is that one.
func errs(t *testing.T, what string, got, want api.Errno) {
	t.Helper()
	if got != want {
		t.Errorf("%s: error %d, not %d", what, got, want)
	}
}

// takes tells if Take answers that.
func takes(t *testing.T, s *Space, addr uint32, err api.Errno) {
	t.Helper()
	if a, e := s.Take(); a != addr || e != err {
		t.Errorf("Take: %d, error %d, not %d, %d", a, e, addr, err)
	}
}

// is tells if just those sectors are taken, of so many; they rise.
func is(t *testing.T, s *Space, size int, taken ...uint32) {
	t.Helper()
	if l := s.Taken(); !slices.Equal(l, taken) {
		t.Errorf("Taken: %d, not %d", l, taken)
	}
	if left := s.Left(); left != size-2-len(taken) {
		t.Errorf("Left: %d, not %d", left, size-2-len(taken))
	}
	for addr := range uint32(size + 200) {
		if _, want := slices.BinarySearch(taken, addr); s.Has(addr) != want {
			t.Errorf("Has(%d) of %d: %v", addr, size, !want)
		}
	}
}

// run are the numbers from one to below another.
func run(from, to int) []uint32 {
	var l []uint32
	for addr := from; addr < to; addr++ {
		l = append(l, uint32(addr))
	}
	return l
}

// sizes are those at all edges, of the limits and of 64 bits.
var sizes = []int{16, 17, 31, 32, 33, 62, 63, 64, 65, 66, 70, 127, 128, 129, 255, 256, 1000, 4031, 4032, 4033, 4095, 4096}

// strange are sectors that aren't some of a space of that size.
func strange(size int) []uint32 {
	n := uint32(size)
	return []uint32{0, 1, n, n + 1, n + 2, n + 63, n + 64, 4096, 4097, 4098, 4096 + 2, 4096 + n - 1, 1<<16 + 2, 1<<16 + n - 1,
		1<<26 + 2, 1<<31 - 1, 1 << 31, 1<<31 + 2, math.MaxUint32 - 1, math.MaxUint32}
}

// P11.1: all sizes about the limits, and those that are some taken for fewer bits.
func TestNewOfAllSizes(t *testing.T) {
	l := []int{math.MinInt, math.MinInt + 16, math.MinInt32, math.MinInt32 + 16, -4096, -16, math.MaxInt32, math.MaxInt - 16, math.MaxInt}
	for size := -20; size < 4200; size++ {
		l = append(l, size)
	}
	for k, n := 13, 16; k < 62; k++ {
		l = append(l, n<<k, n+1<<k, n-1<<k)
	}
	for _, size := range l {
		s, e := New(size)
		if size >= 16 && size <= 4096 {
			if s == nil || e != api.OK || s.Left() != size-2 || len(s.Taken()) != 0 {
				t.Errorf("New(%d): error %d", size, e)
			}
		} else if s != nil || e != api.ErrArg {
			t.Errorf("New(%d): %v, error %d", size, s != nil, e)
		}
	}
}

// P11.1: at first all are free, and the ubers' are none of it.
func TestNewIsFree(t *testing.T) {
	for _, size := range sizes {
		is(t, made(t, size), size)
	}
}

// P11.1, P11.2: the chapter's example.
func TestExample(t *testing.T) {
	s := made(t, 16)
	takes(t, s, 2, api.OK)
	takes(t, s, 3, api.OK)
	errs(t, "Free", s.Free(2), api.OK)
	takes(t, s, 2, api.OK)
	is(t, s, 16, 2, 3)
}

// P11.1, P11.2: all are taken, the lowest first, each once; then none is.
func TestTakeOfAll(t *testing.T) {
	for _, size := range sizes {
		s := made(t, size)
		for addr := 2; addr < size; addr++ {
			if s.Has(uint32(addr)) || s.Left() != size-addr {
				t.Errorf("%d of %d, ahead of it", addr, size)
			}
			takes(t, s, uint32(addr), api.OK)
			if !s.Has(uint32(addr)) || s.Left() != size-addr-1 {
				t.Errorf("%d of %d, behind it", addr, size)
			}
		}
		for range 3 {
			takes(t, s, 0, api.ErrFull)
		}
		is(t, s, size, run(2, size)...)
		errs(t, "Free", s.Free(uint32(size-1)), api.OK)
		takes(t, s, uint32(size-1), api.OK)
		takes(t, s, 0, api.ErrFull)
	}
}

// P11.2: the lowest that is free, wherever those that are taken lie.
func TestTakeIsLowest(t *testing.T) {
	for _, size := range sizes {
		for _, c := range [][]uint32{{2}, {3}, {2, 3}, {2, 4}, {2, 3, 5, 6}, {uint32(size - 1)}} {
			s := made(t, size)
			errs(t, "Set", s.Set(c), api.OK)
			for range 3 {
				want := uint32(2)
				for slices.Contains(c, want) {
					want++
				}
				takes(t, s, want, api.OK)
				c = append(c, want)
			}
			slices.Sort(c)
			is(t, s, size, c...)
		}
	}
}

// P11.2: each by itself is given back, and is the lowest then.
func TestFreeOfEach(t *testing.T) {
	for _, size := range sizes {
		s := made(t, size)
		errs(t, "Set", s.Set(run(2, size)), api.OK)
		for addr := uint32(2); addr < uint32(size); addr++ {
			errs(t, fmt.Sprintf("Free(%d) of %d", addr, size), s.Free(addr), api.OK)
			if s.Has(addr) || s.Left() != 1 {
				t.Errorf("Free(%d) of %d: %d left", addr, size, s.Left())
			}
			errs(t, fmt.Sprintf("Free(%d) of %d once more", addr, size), s.Free(addr), api.ErrNone)
			if s.Left() != 1 {
				t.Errorf("Free(%d) of %d once more: %d left", addr, size, s.Left())
			}
			takes(t, s, addr, api.OK)
		}
		is(t, s, size, run(2, size)...)
	}
}

// P11.2: each by itself is marked, and is there then.
func TestMarkOfEach(t *testing.T) {
	for _, size := range sizes {
		s := made(t, size)
		for addr := uint32(size - 1); addr >= 2; addr-- {
			errs(t, fmt.Sprintf("Mark(%d) of %d", addr, size), s.Mark(addr), api.OK)
			if !s.Has(addr) || s.Has(addr-1) || s.Left() != int(addr)-2 {
				t.Errorf("Mark(%d) of %d: %d left", addr, size, s.Left())
			}
			errs(t, fmt.Sprintf("Mark(%d) of %d once more", addr, size), s.Mark(addr), api.ErrThere)
			if !s.Has(addr) || s.Left() != int(addr)-2 {
				t.Errorf("Mark(%d) of %d once more: %d left", addr, size, s.Left())
			}
		}
		is(t, s, size, run(2, size)...)
	}
}

// P11.2: a sector by itself is marked and given back, and no other one.
func TestMarkAndFreeOfOneAlone(t *testing.T) {
	for _, size := range []int{16, 65, 130} {
		s := made(t, size)
		for addr := uint32(2); addr < uint32(size); addr++ {
			errs(t, "Mark", s.Mark(addr), api.OK)
			is(t, s, size, addr)
			errs(t, "Free", s.Free(addr), api.OK)
			is(t, s, size)
		}
	}
}

// P11.1, P11.2: sectors that aren't some, with none taken, some, and all; nothing comes of them.
func TestStrangeSectors(t *testing.T) {
	for _, size := range sizes {
		for _, taken := range [][]uint32{nil, {2, 5, uint32(size - 1)}, run(2, size)} {
			s := made(t, size)
			errs(t, "Set", s.Set(taken), api.OK)
			for _, addr := range strange(size) {
				if addr >= 2 && addr < uint32(size) {
					continue
				}
				what := fmt.Sprintf("%d of %d", addr, size)
				errs(t, "Mark "+what, s.Mark(addr), api.ErrArg)
				errs(t, "Free "+what, s.Free(addr), api.ErrArg)
				errs(t, "Set "+what, s.Set([]uint32{addr}), api.ErrArg)
				if s.Has(addr) {
					t.Error("Has " + what)
				}
			}
			is(t, s, size, taken...)
		}
	}
}

// P11.2: just those, whatever was taken ahead; more than once, and in any order.
func TestSet(t *testing.T) {
	for _, size := range sizes {
		last := uint32(size - 1)
		s := made(t, size)
		for _, c := range []struct{ l, want []uint32 }{
			{[]uint32{2}, []uint32{2}},
			{[]uint32{last}, []uint32{last}},
			{[]uint32{last, 2, last, 9, 2, 2}, []uint32{2, 9, last}},
			{run(2, size), run(2, size)},
			{nil, nil},
			{run(2, size), run(2, size)},
			{[]uint32{}, nil},
			{append(run(2, size), run(2, size)...), run(2, size)},
			{[]uint32{3, 3, 3}, []uint32{3}},
			{slices.Repeat([]uint32{7, 4}, 5000), []uint32{4, 7}},
		} {
			errs(t, "Set", s.Set(c.l), api.OK)
			is(t, s, size, c.want...)
		}
		takes(t, s, 2, api.OK)
		errs(t, "Free", s.Free(4), api.OK)
		errs(t, "Mark", s.Mark(7), api.ErrThere)
		is(t, s, size, 2, 7)
	}
}

// P11.2: of one that isn't some, at any place, nothing is changed.
func TestSetOfStrangeSectors(t *testing.T) {
	for _, size := range []int{16, 70, 128, 4096} {
		s := made(t, size)
		errs(t, "Set", s.Set([]uint32{3, 9}), api.OK)
		for _, addr := range strange(size) {
			if addr >= 2 && addr < uint32(size) {
				continue
			}
			for _, l := range [][]uint32{{addr, 2, 5}, {2, addr, 5}, {2, 5, addr}, {3, 9, addr}, {addr, addr}, append(run(2, size), addr)} {
				errs(t, fmt.Sprintf("Set of %d, of %d", addr, size), s.Set(l), api.ErrArg)
			}
		}
		is(t, s, size, 3, 9)
		takes(t, s, 2, api.OK)
	}
}

// P11.2: a list that is handed in is neither changed nor kept, its spare room included.
func TestArgumentsStay(t *testing.T) {
	s := made(t, 16)
	room := []uint32{9, 3, 3, 5, 0, 99}
	errs(t, "Set", s.Set(room[:4]), api.OK)
	if !slices.Equal(room, []uint32{9, 3, 3, 5, 0, 99}) {
		t.Errorf("an argument was changed: %d", room)
	}
	clear(room)
	is(t, s, 16, 3, 5, 9)
	takes(t, s, 2, api.OK)
	if !slices.Equal(room, make([]uint32, 6)) {
		t.Errorf("an argument was changed later: %d", room)
	}
}

// P11.1: an answer is new memory.
func TestAnswersAreNew(t *testing.T) {
	s := made(t, 100)
	errs(t, "Set", s.Set([]uint32{3, 64, 65}), api.OK)
	a, b := s.Taken(), s.Taken()
	clear(a[:cap(a)])
	is(t, s, 100, 3, 64, 65)
	takes(t, s, 2, api.OK)
	errs(t, "Free", s.Free(64), api.OK)
	if !slices.Equal(b, []uint32{3, 64, 65}) {
		t.Errorf("an answer was changed later: %d", b)
	}
}

// P11.3: spaces are apart.
func TestSpacesAreApart(t *testing.T) {
	a, b := made(t, 70), made(t, 70)
	takes(t, a, 2, api.OK)
	errs(t, "Mark", a.Mark(65), api.OK)
	is(t, b, 70)
	errs(t, "Set", b.Set([]uint32{69}), api.OK)
	is(t, a, 70, 2, 65)
	is(t, b, 70, 69)
}

// P11.1, P11.2: of a nil Space, whatever else is wrong.
func TestNilSpace(t *testing.T) {
	var s *Space
	takes(t, s, 0, api.ErrNil)
	for _, addr := range []uint32{0, 1, 2, 15, 16, 4096, math.MaxUint32} {
		errs(t, "Mark", s.Mark(addr), api.ErrNil)
		errs(t, "Free", s.Free(addr), api.ErrNil)
		errs(t, "Set", s.Set([]uint32{addr}), api.ErrNil)
		if s.Has(addr) {
			t.Errorf("Has(%d)", addr)
		}
	}
	errs(t, "Set of nothing", s.Set(nil), api.ErrNil)
	if s.Left() != 0 || len(s.Taken()) != 0 {
		t.Errorf("%d left, %d taken", s.Left(), s.Taken())
	}
}

// P1: no call of a Space that New didn't make panics; it has no sectors.
func TestSpaceOfNoSectors(t *testing.T) {
	var s Space
	takes(t, &s, 0, api.ErrFull)
	for _, addr := range []uint32{0, 1, 2, 4095, 4096, math.MaxUint32} {
		errs(t, "Mark", s.Mark(addr), api.ErrArg)
		errs(t, "Free", s.Free(addr), api.ErrArg)
		errs(t, "Set", s.Set([]uint32{addr}), api.ErrArg)
		if s.Has(addr) {
			t.Errorf("Has(%d)", addr)
		}
	}
	errs(t, "Set of nothing", s.Set(nil), api.OK)
	takes(t, &s, 0, api.ErrFull)
	if s.Left() != 0 || len(s.Taken()) != 0 {
		t.Errorf("%d left, %d taken", s.Left(), s.Taken())
	}
}

// plain is a space as the chapter tells it: a list of those that are taken, rising.
type plain struct {
	size  int
	taken []uint32
}

// find tells if it is one, if it is taken, and where it stands among those that are.
func (p *plain) find(addr uint32) (one, taken bool, at int) {
	at, taken = slices.BinarySearch(p.taken, addr)
	return addr >= 2 && addr < uint32(p.size), taken, at
}

func (p *plain) take() (uint32, api.Errno) {
	for i := range p.size - 2 {
		if addr := uint32(i + 2); i == len(p.taken) || p.taken[i] != addr {
			p.taken = slices.Insert(p.taken, i, addr)
			return addr, api.OK
		}
	}
	return 0, api.ErrFull
}

func (p *plain) mark(addr uint32) api.Errno {
	one, taken, at := p.find(addr)
	if !one {
		return api.ErrArg
	}
	if taken {
		return api.ErrThere
	}
	p.taken = slices.Insert(p.taken, at, addr)
	return api.OK
}

func (p *plain) free(addr uint32) api.Errno {
	one, taken, at := p.find(addr)
	if !one {
		return api.ErrArg
	}
	if !taken {
		return api.ErrNone
	}
	p.taken = slices.Delete(p.taken, at, at+1)
	return api.OK
}

func (p *plain) set(l []uint32) api.Errno {
	for _, addr := range l {
		if one, _, _ := p.find(addr); !one {
			return api.ErrArg
		}
	}
	p.taken = slices.Compact(slices.Sorted(slices.Values(l)))
	return api.OK
}

// step does one thing to both spaces.
func step(t *testing.T, r *rand.Rand, s *Space, p *plain) {
	t.Helper()
	addr := uint32(r.Intn(p.size + 4))
	switch n := r.Intn(100); {
	case n < 45:
		want, err := p.take()
		takes(t, s, want, err)
	case n < 60:
		errs(t, "Mark", s.Mark(addr), p.mark(addr))
	case n < 95:
		errs(t, "Free", s.Free(addr), p.free(addr))
	default:
		l := make([]uint32, r.Intn(2*p.size))
		for i := range l {
			l[i] = uint32(2 + r.Intn(p.size-2))
		}
		if len(l) > 0 && r.Intn(2) == 0 {
			l[r.Intn(len(l))] = addr
		}
		errs(t, "Set", s.Set(l), p.set(l))
	}
	if one, taken, _ := p.find(addr); s.Has(addr) != (one && taken) {
		t.Errorf("Has(%d): %v", addr, !taken)
	}
	if s.Left()+len(p.taken) != p.size-2 || !slices.Equal(s.Taken(), p.taken) {
		t.Fatalf("%d left, %d taken, not %d", s.Left(), s.Taken(), p.taken)
	}
}

// P11.3: many things in turn, beside a space that is told plainly: taken and free are all.
func TestBesidePlainSpace(t *testing.T) {
	for seed, size := range []int{16, 17, 63, 64, 65, 66, 128, 130, 300, 4096} {
		r := rand.New(rand.NewSource(int64(seed)))
		s, p := made(t, size), &plain{size: size}
		for range 3000 {
			step(t, r, s, p)
		}
		is(t, s, size, p.taken...)
	}
}

// P11.3: what is taken isn't taken again, ahead of being given back.
func TestTakenOnce(t *testing.T) {
	r := rand.New(rand.NewSource(11))
	s, held := made(t, 100), map[uint32]bool{}
	for range 5000 {
		if addr, e := s.Take(); e == api.OK {
			if held[addr] || addr < 2 || addr > 99 {
				t.Fatalf("%d was taken", addr)
			}
			held[addr] = true
		} else if len(held) != 98 {
			t.Fatalf("error %d with %d taken", e, len(held))
		}
		for range r.Intn(3) {
			addr := uint32(r.Intn(100))
			if (s.Free(addr) == api.OK) != held[addr] {
				t.Fatalf("Free(%d), taken %v", addr, held[addr])
			}
			delete(held, addr)
		}
	}
}
