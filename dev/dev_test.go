package dev

import (
	"bytes"
	"math"
	"math/rand"
	"testing"

	"banyan/api"
)

const all = math.MaxUint64

// sample is a sector's bytes, others for each seed.
func sample(seed int) []byte {
	b := make([]byte, api.Sector)
	x := uint32(seed)*2654435761 + 1
	for i := range b {
		x = x*1664525 + 1013904223
		b[i] = byte(x >> 24)
	}
	return b
}

// torn is what lies where the one write was torn upon the other.
func torn(over, under []byte) []byte {
	return append(bytes.Clone(over[:256]), under[256:]...)
}

// made is a device of so many sectors.
func made(t *testing.T, size int) *Dev {
	t.Helper()
	d, e := New(size)
	if d == nil || e != api.OK {
		t.Fatalf("New(%d): error %d", size, e)
	}
	return d
}

// put writes a sample, and it waits.
func put(t *testing.T, d *Dev, addr uint32, seed int) {
	t.Helper()
	if e := d.Write(addr, sample(seed)); e != api.OK {
		t.Fatalf("Write(%d): error %d", addr, e)
	}
}

func flush(t *testing.T, d *Dev) {
	t.Helper()
	if e := d.Flush(); e != api.OK {
		t.Fatalf("Flush: error %d", e)
	}
}

// reads and peeks tell if those bytes are what is read, and what lies there.
func reads(t *testing.T, d *Dev, addr uint32, want []byte) {
	t.Helper()
	b, e := d.Read(addr)
	if e != api.OK || !bytes.Equal(b, want) {
		t.Errorf("Read(%d): error %d, %d bytes, not the ones that are right", addr, e, len(b))
	}
}

func peeks(t *testing.T, d *Dev, addr uint32, want []byte) {
	t.Helper()
	b, e := d.Peek(addr)
	if e != api.OK || !bytes.Equal(b, want) {
		t.Errorf("Peek(%d): error %d, %d bytes, not the ones that are right", addr, e, len(b))
	}
}

// is tells if that many writes wait, and the device is up or down.
func is(t *testing.T, d *Dev, waits int, down bool) {
	t.Helper()
	if d.Waits() != waits || d.Down() != down {
		t.Errorf("%d wait, down %t; not %d, %t", d.Waits(), d.Down(), waits, down)
	}
}

// errs tells if an error is that one.
func errs(t *testing.T, what string, got, want api.Errno) {
	t.Helper()
	if got != want {
		t.Errorf("%s: error %d, not %d", what, got, want)
	}
}

// P6.1: sizes that a device has, each end of them.
func TestNewIsUpAndEmpty(t *testing.T) {
	for _, size := range []int{16, 17, 100, 4095, 4096} {
		d := made(t, size)
		if d.Size() != size {
			t.Errorf("Size of %d: %d", size, d.Size())
		}
		is(t, d, 0, false)
		zeros := make([]byte, 512)
		for addr := range uint32(size) {
			reads(t, d, addr, zeros)
			peeks(t, d, addr, zeros)
		}
	}
}

// P6.1: sizes that no device has.
func TestNewOfWrongSizes(t *testing.T) {
	for _, size := range []int{15, 4097, 0, 1, -1, -16, -4096, 1<<32 + 16, math.MaxInt, math.MinInt} {
		if d, e := New(size); d != nil || e != api.ErrArg {
			t.Errorf("New(%d): %v, error %d", size, d != nil, e)
		}
	}
}

// P6.1: a new device has no limit.
func TestNewHasNoLimit(t *testing.T) {
	d := made(t, 16)
	for i := range 5000 {
		put(t, d, uint32(i%16), i)
	}
	is(t, d, 5000, false)
	flush(t, d)
	for addr := range uint32(16) {
		seed := 4976 + int(addr) // the last writes of sectors 0 to 7 have the numbers from 4992 on
		if addr < 8 {
			seed += 16
		}
		reads(t, d, addr, sample(seed))
	}
}

// P6.1: how many wait.
func TestWaitsCountsEachWrite(t *testing.T) {
	d := made(t, 16)
	for i := range 5 {
		put(t, d, 3, i)
		is(t, d, i+1, false)
	}
	d.Read(3)
	d.Peek(3)
	d.Poke(3, sample(9))
	d.Limit(7)
	is(t, d, 5, false)
	flush(t, d)
	is(t, d, 0, false)
	put(t, d, 3, 1)
	is(t, d, 1, false)
	d.Crash(0, -1)
	is(t, d, 0, false)
}

// P6.1: what waits is there yet while it is down, and Size too.
func TestWaitsAndSizeWhileDown(t *testing.T) {
	d := made(t, 20)
	d.Limit(2)
	put(t, d, 1, 1)
	put(t, d, 2, 2)
	errs(t, "Write", d.Write(3, sample(3)), api.ErrDown)
	is(t, d, 2, true)
	errs(t, "Flush", d.Flush(), api.ErrDown)
	is(t, d, 2, true)
	if d.Size() != 20 {
		t.Error(d.Size())
	}
}

// P6.2: what waits is read, the last of it; what lies there isn't changed till a flush.
func TestReadIsLastWrite(t *testing.T) {
	d := made(t, 16)
	zeros := make([]byte, 512)
	put(t, d, 0, 1)
	put(t, d, 15, 2)
	reads(t, d, 0, sample(1))
	put(t, d, 0, 3)
	reads(t, d, 0, sample(3))
	reads(t, d, 15, sample(2))
	reads(t, d, 1, zeros)
	peeks(t, d, 0, zeros)
	peeks(t, d, 15, zeros)
	flush(t, d)
	for i, want := range map[uint32][]byte{0: sample(3), 15: sample(2), 1: zeros} {
		reads(t, d, i, want)
		peeks(t, d, i, want)
	}
	put(t, d, 0, 4)
	reads(t, d, 0, sample(4))
	peeks(t, d, 0, sample(3))
}

// P6.2: sectors that aren't there, and bytes that aren't 512; nothing comes of them.
func TestArgumentsThatMayNotBe(t *testing.T) {
	d := made(t, 16)
	for _, addr := range []uint32{16, 17, 4096, 1 << 16, 1 << 31, 1<<31 + 1, math.MaxUint32} {
		b, e := d.Read(addr)
		errs(t, "Read", e, api.ErrArg)
		p, e := d.Peek(addr)
		errs(t, "Peek", e, api.ErrArg)
		if b != nil || p != nil {
			t.Error("bytes beside an error")
		}
		errs(t, "Write", d.Write(addr, sample(1)), api.ErrArg)
		errs(t, "Poke", d.Poke(addr, sample(1)), api.ErrArg)
		errs(t, "Write of nothing", d.Write(addr, nil), api.ErrArg)
	}
	for _, size := range []int{0, 1, 256, 511, 513, 1024, 65536} {
		errs(t, "Write", d.Write(1, make([]byte, size)), api.ErrArg)
		errs(t, "Poke", d.Poke(1, make([]byte, size)), api.ErrArg)
	}
	errs(t, "Write of nil", d.Write(1, nil), api.ErrArg)
	errs(t, "Poke of nil", d.Poke(1, nil), api.ErrArg)
	is(t, d, 0, false)
	reads(t, d, 1, make([]byte, 512))
}

// P6.2: ErrArg is told ahead of ErrDown.
func TestErrArgIsFirst(t *testing.T) {
	d := made(t, 16)
	d.Limit(0)
	errs(t, "Write", d.Write(16, sample(1)), api.ErrArg)
	errs(t, "Write", d.Write(1, sample(1)[1:]), api.ErrArg)
	is(t, d, 0, false) // it isn't what gets it down
	errs(t, "Flush", d.Flush(), api.ErrDown)
	b, e := d.Read(16)
	errs(t, "Read", e, api.ErrArg)
	errs(t, "Write", d.Write(16, sample(1)), api.ErrArg)
	errs(t, "Write", d.Write(1, sample(1)[1:]), api.ErrArg)
	c, e := d.Read(15)
	errs(t, "Read", e, api.ErrDown)
	if b != nil || c != nil {
		t.Error("bytes beside an error")
	}
	is(t, d, 0, true)
}

// P6.2: so many go well, of Writes and Flushes together, and the next one gets it down.
func TestLimitCountsWritesAndFlushes(t *testing.T) {
	for limit := range 12 {
		d := made(t, 16)
		d.Limit(limit)
		for i := range limit {
			d.Read(1)
			d.Peek(1)
			d.Poke(2, sample(50))
			d.Write(16, sample(1))
			d.Write(1, nil)
			e := api.OK
			if i%3 == 2 {
				e = d.Flush()
			} else {
				e = d.Write(1, sample(i))
			}
			if e != api.OK || d.Down() {
				t.Fatalf("limit %d, number %d: error %d", limit, i, e)
			}
		}
		waits := limit % 3
		reads(t, d, 2, sampleOr(50, limit))
		e := api.OK
		if limit%2 == 0 {
			e = d.Write(1, sample(99))
		} else {
			e = d.Flush()
		}
		errs(t, "the one beyond", e, api.ErrDown)
		is(t, d, waits, true)
		errs(t, "Flush behind it", d.Flush(), api.ErrDown)
		errs(t, "Write behind it", d.Write(1, sample(9)), api.ErrDown)
		is(t, d, waits, true)
	}
}

// sampleOr is a sample, or zeros where nothing was poked.
func sampleOr(seed, limit int) []byte {
	if limit == 0 {
		return make([]byte, 512)
	}
	return sample(seed)
}

// P6.2: a flush that gets it down lays nothing.
func TestFlushBeyondLimitLaysNothing(t *testing.T) {
	d := made(t, 16)
	put(t, d, 5, 1)
	d.Limit(0)
	reads(t, d, 5, sample(1))
	errs(t, "Flush", d.Flush(), api.ErrDown)
	peeks(t, d, 5, make([]byte, 512))
	is(t, d, 1, true)
	d.Crash(1, -1)
	reads(t, d, 5, sample(1))
}

// P6.2: a write that gets it down doesn't wait.
func TestWriteBeyondLimitIsLost(t *testing.T) {
	d := made(t, 16)
	d.Limit(1)
	put(t, d, 5, 1)
	errs(t, "Write", d.Write(5, sample(2)), api.ErrDown)
	errs(t, "Write", d.Write(6, sample(3)), api.ErrDown)
	is(t, d, 1, true)
	d.Crash(all, -1)
	reads(t, d, 5, sample(1))
	reads(t, d, 6, make([]byte, 512))
}

// P6.2: the last limit holds, and one below 0 is none.
func TestLimitAnew(t *testing.T) {
	for _, none := range []int{-1, -2, -64, math.MinInt} {
		d := made(t, 16)
		d.Limit(0)
		d.Limit(none)
		for i := range 300 {
			put(t, d, 1, i)
		}
		flush(t, d)
		is(t, d, 0, false)
	}
	d := made(t, 16)
	d.Limit(1)
	put(t, d, 1, 1)
	d.Limit(2)
	put(t, d, 1, 2)
	flush(t, d)
	d.Limit(math.MaxInt)
	put(t, d, 1, 3)
	d.Limit(0)
	errs(t, "Flush", d.Flush(), api.ErrDown)
	is(t, d, 1, true)
}

// P6.2: a limit has nothing go well that is down; a crash alone gets it up.
func TestLimitOfOneThatIsDown(t *testing.T) {
	for _, n := range []int{-1, 0, 5} {
		d := made(t, 16)
		d.Limit(0)
		d.Flush()
		d.Limit(n)
		is(t, d, 0, true)
		errs(t, "Flush", d.Flush(), api.ErrDown)
		errs(t, "Write", d.Write(1, sample(1)), api.ErrDown)
		_, e := d.Read(1)
		errs(t, "Read", e, api.ErrDown)
	}
}

// P6.3: each write hangs on its own bit of keep, its number's.
func TestCrashKeepsByBits(t *testing.T) {
	for _, keep := range []uint64{0, 1, 2, 3, 5, 1 << 15, 1 << 63, 0xAAAAAAAAAAAAAAAA, 0x0123456789ABCDEF, all - 1, all} {
		d := made(t, 80)
		for i := range 80 {
			put(t, d, uint32(i), i)
		}
		d.Crash(keep, -1)
		is(t, d, 0, false)
		for i := range 80 {
			want := make([]byte, 512)
			if keep&(1<<(i%64)) != 0 {
				want = sample(i)
			}
			reads(t, d, uint32(i), want)
			peeks(t, d, uint32(i), want)
		}
	}
}

// P6.3: numbers from 64 on hang on the bits from the first one on again.
func TestCrashBeyondSixtyFour(t *testing.T) {
	for bit := range 64 {
		d := made(t, 4096)
		for i := range 200 {
			put(t, d, uint32(4095-i), i)
		}
		d.Crash(1<<bit, -1)
		for i := range 200 {
			want := make([]byte, 512)
			if i%64 == bit {
				want = sample(i)
			}
			reads(t, d, uint32(4095-i), want)
		}
	}
}

// P6.3: of several writes of one sector the last that is kept stays.
func TestCrashLaysInOrder(t *testing.T) {
	for keep := range uint64(16) {
		d := made(t, 16)
		d.Poke(7, sample(100))
		for i := range 4 {
			put(t, d, 7, i)
		}
		want := sample(100)
		for i := range 4 {
			if keep>>i&1 == 1 {
				want = sample(i)
			}
		}
		d.Crash(keep, -1)
		reads(t, d, 7, want)
	}
}

// P6.3: the torn one's first half is laid, whatever keep has, upon what lies there by then.
func TestCrashTears(t *testing.T) {
	old := sample(100)
	for _, c := range []struct {
		keep uint64
		torn int
		want []byte
	}{
		{0, 0, torn(sample(0), old)},
		{1, 0, torn(sample(0), old)},
		{all, 0, sample(2)},
		{0, 1, torn(sample(1), old)},
		{1, 1, torn(sample(1), sample(0))},
		{3, 1, torn(sample(1), sample(0))},
		{0, 2, torn(sample(2), old)},
		{1, 2, torn(sample(2), sample(0))},
		{2, 2, torn(sample(2), sample(1))},
		{all, 2, torn(sample(2), sample(1))},
		{all, 3, sample(2)},
		{0, 3, old},
		{0, -1, old},
		{0, 64, old},
		{0, math.MaxInt, old},
		{2, math.MinInt, sample(1)},
		{0, -64, old},
	} {
		d := made(t, 16)
		d.Poke(7, old)
		for i := range 3 {
			put(t, d, 7, i)
		}
		d.Crash(c.keep, c.torn)
		is(t, d, 0, false)
		reads(t, d, 7, c.want)
		peeks(t, d, 7, c.want)
	}
}

// P6.3: torn is a write's whole number, not that of its bit.
func TestCrashTearsOneAlone(t *testing.T) {
	for _, keep := range []uint64{0, all} {
		d := made(t, 200)
		for i := range 200 {
			put(t, d, uint32(i), i)
		}
		d.Crash(keep, 70)
		zeros := make([]byte, 512)
		for i := range 200 {
			want := zeros
			if i == 70 {
				want = torn(sample(i), zeros)
			} else if keep == all {
				want = sample(i)
			}
			reads(t, d, uint32(i), want)
		}
	}
}

// P6.3: behind a crash it is up, without a limit, and numbers begin anew.
func TestCrashBeginsAnew(t *testing.T) {
	d := made(t, 16)
	d.Limit(3)
	put(t, d, 1, 1)
	d.Crash(0, -1)
	for i := range 10 {
		put(t, d, uint32(i), i)
	}
	d.Limit(0)
	errs(t, "Flush", d.Flush(), api.ErrDown)
	is(t, d, 10, true)
	d.Crash(1<<4, -1)
	is(t, d, 0, false)
	reads(t, d, 4, sample(4))
	reads(t, d, 5, make([]byte, 512))
	for i := range 300 {
		put(t, d, 2, i)
	}
	flush(t, d)
	put(t, d, 3, 77)
	d.Crash(1, -1)
	reads(t, d, 3, sample(77))
	d.Crash(all, 0)
	reads(t, d, 3, sample(77))
}

// P6.3: what lies there is seen and changed whatever waits, and what waits isn't changed by it.
func TestPokeBesideWaits(t *testing.T) {
	d := made(t, 16)
	put(t, d, 1, 1)
	errs(t, "Poke", d.Poke(1, sample(2)), api.OK)
	reads(t, d, 1, sample(1))
	peeks(t, d, 1, sample(2))
	is(t, d, 1, false)
	flush(t, d)
	peeks(t, d, 1, sample(1))
	errs(t, "Poke", d.Poke(1, sample(3)), api.OK)
	reads(t, d, 1, sample(3))
	put(t, d, 1, 4)
	d.Poke(1, sample(5))
	d.Crash(0, -1)
	reads(t, d, 1, sample(5))
}

// P6.3: Peek and Poke answer while it is down.
func TestPeekAndPokeWhileDown(t *testing.T) {
	d := made(t, 16)
	d.Poke(1, sample(1))
	d.Limit(0)
	d.Flush()
	peeks(t, d, 1, sample(1))
	errs(t, "Poke", d.Poke(15, sample(2)), api.OK)
	peeks(t, d, 15, sample(2))
	errs(t, "Poke", d.Poke(16, sample(2)), api.ErrArg)
	errs(t, "Poke", d.Poke(15, sample(2)[:511]), api.ErrArg)
	_, e := d.Peek(16)
	errs(t, "Peek", e, api.ErrArg)
	is(t, d, 0, true)
	d.Crash(0, -1)
	reads(t, d, 15, sample(2))
}

// P6.4: the chapter's examples.
func TestExamples(t *testing.T) {
	d := made(t, 16)
	put(t, d, 1, 1)
	d.Crash(0, -1)
	reads(t, d, 1, make([]byte, 512))
	put(t, d, 1, 1)
	flush(t, d)
	d.Crash(0, -1)
	reads(t, d, 1, sample(1))
}

// P6.4: what was flushed lasts whatever crashes, also while writes of other sectors wait.
func TestFlushedLasts(t *testing.T) {
	r := rand.New(rand.NewSource(1))
	for range 50 {
		d := made(t, 32)
		for addr := range uint32(16) {
			put(t, d, addr, int(addr))
		}
		flush(t, d)
		for range 20 {
			put(t, d, uint32(16+r.Intn(16)), r.Int())
		}
		d.Crash(r.Uint64(), r.Intn(24)-2)
		for addr := range uint32(16) {
			reads(t, d, addr, sample(int(addr)))
		}
	}
}

// P6.4: with all kept a crash is as a flush.
func TestCrashOfAllIsFlush(t *testing.T) {
	r := rand.New(rand.NewSource(2))
	for range 50 {
		a, b := made(t, 16), made(t, 16)
		for range r.Intn(150) {
			addr, seed := uint32(r.Intn(16)), r.Int()
			put(t, a, addr, seed)
			put(t, b, addr, seed)
		}
		a.Crash(all, -1)
		flush(t, b)
		for addr := range uint32(16) {
			want, _ := b.Peek(addr)
			reads(t, a, addr, want)
			reads(t, b, addr, want)
		}
	}
}

// plain is a device as the chapter tells it, without a map: its sectors, and all that waits.
type plain struct {
	lies  [16][]byte
	addrs []uint32
	bytes [][]byte
	limit int
	down  bool
}

func (p *plain) goes() bool {
	if p.down || p.limit == 0 {
		p.down = true
		return false
	}
	p.limit--
	return true
}

func (p *plain) read(addr uint32) []byte {
	b := p.lies[addr]
	for i, a := range p.addrs {
		if a == addr {
			b = p.bytes[i]
		}
	}
	return b
}

func (p *plain) lay(kept func(i int) bool, torn1 int) {
	for i, a := range p.addrs {
		if i == torn1 {
			p.lies[a] = torn(p.bytes[i], p.lies[a])
		} else if kept(i) {
			p.lies[a] = p.bytes[i]
		}
	}
	p.addrs, p.bytes = nil, nil
}

// step does one thing to both devices.
func step(t *testing.T, r *rand.Rand, d *Dev, p *plain) {
	t.Helper()
	addr, b := uint32(r.Intn(16)), sample(r.Int())
	switch n := r.Intn(100); {
	case n < 75:
		if e := d.Write(addr, b); (e == api.OK) != p.goes() {
			t.Fatalf("Write: error %d", e)
		} else if e == api.OK {
			p.addrs, p.bytes = append(p.addrs, addr), append(p.bytes, b)
		}
	case n < 78:
		if e := d.Flush(); (e == api.OK) != p.goes() {
			t.Fatalf("Flush: error %d", e)
		} else if e == api.OK {
			p.lay(func(int) bool { return true }, -1)
		}
	case n < 80:
		p.limit = r.Intn(120) - 20
		d.Limit(p.limit)
	case n < 83:
		keep, torn1 := r.Uint64(), r.Intn(len(p.addrs)+3)-1
		d.Crash(keep, torn1)
		p.lay(func(i int) bool { return keep&(1<<(i%64)) != 0 }, torn1)
		p.down, p.limit = false, -1
	case n < 88:
		d.Poke(addr, b)
		p.lies[addr] = b
	}
	is(t, d, len(p.addrs), p.down)
	peeks(t, d, addr, p.lies[addr])
	if !p.down {
		reads(t, d, addr, p.read(addr))
	} else if b, e := d.Read(addr); b != nil || e != api.ErrDown {
		t.Fatalf("Read: error %d", e)
	}
}

// P6.2, P6.3: many things in turn, beside a device that is told plainly.
func TestBesidePlainDevice(t *testing.T) {
	for seed := range int64(20) {
		r := rand.New(rand.NewSource(seed))
		d, p := made(t, 16), &plain{limit: -1}
		for i := range p.lies {
			p.lies[i] = make([]byte, 512)
		}
		for range 2000 {
			step(t, r, d, p)
		}
		for addr := range uint32(16) {
			peeks(t, d, addr, p.lies[addr])
		}
	}
}

// P6.1, P6.2, P6.3: of a nil Dev.
func TestNilDev(t *testing.T) {
	var d *Dev
	for _, addr := range []uint32{0, 16, math.MaxUint32} {
		b, e := d.Read(addr)
		errs(t, "Read", e, api.ErrNil)
		p, e := d.Peek(addr)
		errs(t, "Peek", e, api.ErrNil)
		if b != nil || p != nil {
			t.Error("bytes beside an error")
		}
		for _, b := range [][]byte{nil, sample(1), make([]byte, 3)} {
			errs(t, "Write", d.Write(addr, b), api.ErrNil)
			errs(t, "Poke", d.Poke(addr, b), api.ErrNil)
		}
	}
	errs(t, "Flush", d.Flush(), api.ErrNil)
	d.Limit(-1)
	d.Limit(1)
	d.Crash(all, 0)
	is(t, d, 0, true)
	if d.Size() != 0 {
		t.Error(d.Size())
	}
}

// P6.2, P6.3: what is handed in is neither changed nor kept, its spare room included.
func TestArgumentsStay(t *testing.T) {
	d := made(t, 16)
	for _, lay := range []func(uint32, []byte) api.Errno{d.Write, d.Poke} {
		room := append(sample(1), sample(2)...)
		errs(t, "Write or Poke", lay(1, room[:512]), api.OK)
		if !bytes.Equal(room, append(sample(1), sample(2)...)) {
			t.Error("an argument was changed")
		}
		clear(room)
		reads(t, d, 1, sample(1))
		flush(t, d)
		peeks(t, d, 1, sample(1))
		if !bytes.Equal(room, make([]byte, 1024)) {
			t.Error("an argument was changed later")
		}
		d.Poke(1, make([]byte, 512))
	}
}

// P6.2, P6.3: an answer is new memory.
func TestAnswersAreNew(t *testing.T) {
	d := made(t, 16)
	d.Poke(1, sample(1))
	put(t, d, 2, 2)
	for _, get := range []func(uint32) ([]byte, api.Errno){d.Read, d.Peek} {
		for addr := range uint32(3) {
			b, _ := get(addr)
			want := bytes.Clone(b)
			c, _ := get(addr)
			clear(b[:cap(b)])
			if !bytes.Equal(c, want) {
				t.Error("two answers share memory")
			}
			if b, _ = get(addr); !bytes.Equal(b, want) {
				t.Error("an answer shares the device's memory")
			}
		}
	}
	flush(t, d)
	kept, _ := d.Read(2)
	put(t, d, 2, 9)
	flush(t, d)
	d.Poke(2, sample(10))
	if !bytes.Equal(kept, sample(2)) {
		t.Error("an answer was changed later")
	}
}

// P6.1: devices are apart.
func TestDevicesAreApart(t *testing.T) {
	a, b := made(t, 16), made(t, 16)
	put(t, a, 1, 1)
	is(t, b, 0, false)
	flush(t, a)
	a.Limit(0)
	a.Flush()
	is(t, b, 0, false)
	peeks(t, b, 1, make([]byte, 512))
	flush(t, b)
}
