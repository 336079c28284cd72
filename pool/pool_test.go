package pool

import (
	stdaes "crypto/aes"
	"crypto/cipher"
	"crypto/sha256"
	"encoding/binary"
	"fmt"
	"math"
	"math/rand"
	"reflect"
	"slices"
	"strings"
	"testing"

	"banyan/api"
	"banyan/dev"
	"banyan/seal"
)

var master = seal.Derive([]byte("master"))

// sizes are those at all edges, of the limits and of 64 bits.
var sizes = []int{16, 17, 63, 64, 65, 66, 67, 128, 129, 1000, 4095, 4096}

// births are numbers at all edges, that may be.
var births = []uint64{1, 2, 255, 256, math.MaxUint32, 1 << 32, 1<<32 + 1, 1 << 63, math.MaxUint64 - 1, math.MaxUint64}

// made is a new pool, and its device.
func made(t *testing.T, size int) (*Pool, *dev.Dev) {
	t.Helper()
	d, e := dev.New(size)
	if e != api.OK {
		t.Fatalf("a device of %d: error %d", size, e)
	}
	p, e := New(d, master)
	if p == nil || e != api.OK {
		t.Fatalf("New of a device of %d: error %d", size, e)
	}
	return p, d
}

// begun is one that has a birth.
func begun(t *testing.T, size int, birth uint64) (*Pool, *dev.Dev) {
	t.Helper()
	p, d := made(t, size)
	errs(t, "Begin", p.Begin(birth), api.OK)
	return p, d
}

// errs tells if an error is that one.
func errs(t *testing.T, what string, got, want api.Errno) {
	t.Helper()
	if got != want {
		t.Errorf("%s: error %d, not %d", what, got, want)
	}
}

// is tells if just those sectors are taken, of so many; they rise.
func is(t *testing.T, p *Pool, size int, taken ...uint32) {
	t.Helper()
	if l := p.Taken(); !slices.Equal(l, taken) {
		t.Errorf("Taken: %d, not %d", l, taken)
	}
	if left := p.Left(); left != size-2-len(taken) {
		t.Errorf("Left: %d, not %d", left, size-2-len(taken))
	}
}

// run are the numbers from one to below another.
func run(from, to int) []uint32 {
	var l []uint32
	for addr := from; addr < to; addr++ {
		l = append(l, uint32(addr))
	}
	return l
}

// leaf is one of keys, each with the value behind it.
func leaf(pairs ...string) api.Node {
	n := api.Node{Leaf: true}
	for i := 0; i < len(pairs); i += 2 {
		n.Keys, n.Vals = append(n.Keys, pairs[i]), append(n.Vals, pairs[i+1])
	}
	return n
}

// branch is one of keys, with the kids that they ask for.
func branch(keys ...string) api.Node {
	n := api.Node{Keys: keys}
	for i := range len(keys) + 1 {
		n.Kids = append(n.Kids, api.Ptr{Addr: uint32(4095 - i), Birth: uint64(i + 1), Sum: sha256.Sum256([]byte{byte(i)})})
	}
	return n
}

// bigLeaf is a leaf of 500 bytes and those of its last value.
func bigLeaf(val int) api.Node {
	v := strings.Repeat("v", 96)
	return leaf("a", v, "b", v, "c", v, "d", v, "e", v, "f", strings.Repeat("w", val))
}

// bigBranch is one of 505 bytes and those of its last key.
func bigBranch(key int) api.Node {
	return branch("a", "b", "c", "d", "e", "f", "g", "h", "i", strings.Repeat("j", key))
}

// nodes are some of all kinds, the greatest too.
func nodes() []api.Node {
	return []api.Node{leaf(), leaf("a", "b"), leaf("a", ""), leaf("\x00", "\xff", "k", "", "key", "val"),
		leaf(strings.Repeat("k", 32), strings.Repeat("v", 96)), bigLeaf(12), branch("m"), branch("b", "d"), bigBranch(7)}
}

// wrong is a node that may not be, and why.
type wrong struct {
	n   api.Node
	err api.Errno
}

func wrongNodes() []wrong {
	far := branch("m")
	far.Kids[1].Addr = 4096
	null := branch("m")
	null.Kids[0] = api.Ptr{}
	unborn := branch("m")
	unborn.Kids[0].Birth = 0
	return []wrong{
		{api.Node{}, api.ErrForm}, {branch(), api.ErrForm}, {far, api.ErrForm}, {null, api.ErrForm}, {unborn, api.ErrForm},
		{leaf("", "x"), api.ErrForm}, {leaf("b", "", "a", ""), api.ErrForm}, {leaf("a", "", "a", ""), api.ErrForm},
		{leaf(strings.Repeat("k", 33), ""), api.ErrForm}, {leaf("a", strings.Repeat("v", 97)), api.ErrForm},
		{api.Node{Leaf: true, Keys: []string{"a"}}, api.ErrForm}, {api.Node{Leaf: true, Kids: branch("m").Kids}, api.ErrForm},
		{bigLeaf(13), api.ErrFull}, {bigBranch(8), api.ErrFull},
	}
}

// plainly is a node as bytes, told plainly.
func plainly(n api.Node) []byte {
	b := []byte{2, byte(len(n.Keys))}
	if n.Leaf {
		b[0] = 1
	}
	for i, key := range n.Keys {
		b = append(append(b, byte(len(key))), key...)
		if n.Leaf {
			b = append(append(b, byte(len(n.Vals[i]))), n.Vals[i]...)
		}
	}
	for _, kid := range n.Kids {
		b = binary.BigEndian.AppendUint32(b, kid.Addr)
		b = binary.BigEndian.AppendUint64(b, kid.Birth)
		b = append(b, kid.Sum[:]...)
	}
	return append(b, make([]byte, 512-len(b))...)
}

// sealed is a block as it must lie on the device, and its pointer, by the library.
func sealed(t *testing.T, k seal.Keys, birth uint64, addr uint32, block []byte) (string, api.Ptr) {
	t.Helper()
	c, err := stdaes.NewCipher(k.Enc[:])
	if err != nil {
		t.Fatal(err)
	}
	first := binary.BigEndian.AppendUint64(nil, birth)
	first = binary.BigEndian.AppendUint32(first, addr)
	x := make([]byte, len(block))
	cipher.NewCTR(c, append(first, 0, 0, 0, 0)).XORKeyStream(x, block)
	return string(x), api.Ptr{Addr: addr, Birth: birth, Sum: sha256.Sum256(x)}
}

// alike says, told plainly, whether two nodes are the same.
func alike(a, b api.Node) bool {
	return a.Leaf == b.Leaf && slices.Equal(a.Keys, b.Keys) && slices.Equal(a.Vals, b.Vals) && slices.Equal(a.Kids, b.Kids)
}

// none says whether a node is the zero value, as it must be beside an error.
func none(n api.Node) bool {
	return !n.Leaf && len(n.Keys)+len(n.Vals)+len(n.Kids) == 0
}

// writes has Write answer that very pointer, and the sector be as it must.
func writes(t *testing.T, p *Pool, d *dev.Dev, birth uint64, addr uint32, n api.Node) api.Ptr {
	t.Helper()
	want, at := sealed(t, p.keys, birth, addr, plainly(n))
	if got, e := p.Write(n); got != at || e != api.OK {
		t.Errorf("Write: %v, error %d, not %v", got, e, at)
	}
	if b, e := d.Read(addr); string(b) != want || e != api.OK {
		t.Errorf("sector %d: error %d, and not the bytes that are right", addr, e)
	}
	return at
}

// refuses has Write answer an error, and nothing come of it.
func refuses(t *testing.T, what string, p *Pool, d *dev.Dev, n api.Node, err api.Errno) {
	t.Helper()
	taken, left, waits := p.Taken(), p.Left(), d.Waits()
	if at, e := p.Write(n); at != (api.Ptr{}) || e != err {
		t.Errorf("%s: Write: %v, error %d, not %d", what, at, e, err)
	}
	if !slices.Equal(p.Taken(), taken) || p.Left() != left || d.Waits() != waits {
		t.Errorf("%s: %d taken, not %d; %d left, not %d; %d wait, not %d", what, p.Taken(), taken, p.Left(), left, d.Waits(), waits)
	}
}

// reads has Read answer a node.
func reads(t *testing.T, what string, p *Pool, at api.Ptr, want api.Node) {
	t.Helper()
	if n, e := p.Read(at); !alike(n, want) || e != api.OK {
		t.Errorf("%s: Read: %v, error %d, not %v", what, n, e, want)
	}
}

// fails has Read answer an error.
func fails(t *testing.T, what string, p *Pool, at api.Ptr, err api.Errno) {
	t.Helper()
	if n, e := p.Read(at); !none(n) || e != err {
		t.Errorf("%s: Read: %v, error %d, not %d", what, n, e, err)
	}
}

// peek is what lies in a sector.
func peek(t *testing.T, d *dev.Dev, addr uint32) []byte {
	t.Helper()
	b, e := d.Peek(addr)
	if e != api.OK {
		t.Fatalf("Peek(%d): error %d", addr, e)
	}
	return b
}

func flush(t *testing.T, d *dev.Dev) {
	t.Helper()
	errs(t, "Flush", d.Flush(), api.OK)
}

// P13.1: of no device there is no pool.
func TestNewOfNoDevice(t *testing.T) {
	for _, k := range []seal.Keys{{}, master} {
		if p, e := New(nil, k); p != nil || e != api.ErrNil {
			t.Errorf("%v, error %d", p != nil, e)
		}
	}
}

// P13.1: none of a space of the device's size is taken at first, whatever lies on the device.
func TestNewHasNothingTaken(t *testing.T) {
	for _, size := range sizes {
		p, d := made(t, size)
		is(t, p, size)
		errs(t, "Begin", p.Begin(1), api.OK)
		writes(t, p, d, 1, 2, leaf("a", "b"))
		flush(t, d)
		other, e := New(d, master)
		errs(t, "New", e, api.OK)
		is(t, other, size)
		is(t, p, size, 2)
	}
}

// P13.1: it asks nothing of the device, so that one that is down, or is about to be, has a pool too.
func TestNewAsksNothingOfTheDevice(t *testing.T) {
	_, d := made(t, 20)
	d.Limit(0)
	p, e := New(d, master)
	if p == nil || e != api.OK || d.Down() || d.Waits() != 0 {
		t.Fatalf("error %d, down %v, %d wait", e, d.Down(), d.Waits())
	}
	errs(t, "Flush", d.Flush(), api.ErrDown)
	p, e = New(d, master)
	if p == nil || e != api.OK {
		t.Fatalf("of a device that is down: error %d", e)
	}
	is(t, p, 20)
}

// P13.1: each birth but 0 is that of what is written from then on, a lower one too.
func TestBegin(t *testing.T) {
	p, d := made(t, 4096)
	addr := uint32(2)
	for _, birth := range slices.Concat(births, []uint64{9, 3, 3, 1}) {
		errs(t, fmt.Sprintf("Begin(%d)", birth), p.Begin(birth), api.OK)
		for range 2 {
			writes(t, p, d, birth, addr, leaf("a", "b"))
			addr++
		}
		errs(t, "Begin(0)", p.Begin(0), api.ErrArg)
		writes(t, p, d, birth, addr, leaf("a", "b"))
		addr++
	}
	for bit := range 64 {
		errs(t, fmt.Sprintf("Begin of bit %d", bit), p.Begin(1<<bit), api.OK)
		writes(t, p, d, 1<<bit, addr, leaf("a", "b"))
		addr++
	}
}

// P13.1: Begin changes nothing but the birth.
func TestBeginLeavesAllElse(t *testing.T) {
	p, d := begun(t, 16, 1)
	at := writes(t, p, d, 1, 2, leaf("a", "b"))
	errs(t, "Keep", p.Keep([]uint32{2, 7}), api.OK)
	errs(t, "Begin", p.Begin(2), api.OK)
	is(t, p, 16, 2, 7)
	reads(t, "written ahead of it", p, at, leaf("a", "b"))
	if d.Waits() != 1 {
		t.Errorf("%d wait", d.Waits())
	}
}

// P13.1: just those are taken, whatever was ahead; more than once, and in any order.
func TestKeep(t *testing.T) {
	for _, size := range sizes {
		last := uint32(size - 1)
		p, _ := made(t, size)
		for _, c := range []struct{ l, want []uint32 }{
			{[]uint32{2}, []uint32{2}},
			{[]uint32{last}, []uint32{last}},
			{[]uint32{last, 2, last, 9, 2, 2}, []uint32{2, 9, last}},
			{run(2, size), run(2, size)},
			{nil, nil},
			{run(2, size), run(2, size)},
			{[]uint32{}, nil},
			{slices.Repeat([]uint32{7, 4}, 5000), []uint32{4, 7}},
		} {
			errs(t, "Keep", p.Keep(c.l), api.OK)
			is(t, p, size, c.want...)
		}
	}
}

// P13.1: of one that isn't a sector behind the ubers', at any place, nothing is changed.
func TestKeepOfStrangeSectors(t *testing.T) {
	for _, size := range sizes {
		p, _ := made(t, size)
		errs(t, "Keep", p.Keep([]uint32{3, 9}), api.OK)
		n := uint32(size)
		for _, addr := range []uint32{0, 1, n, n + 1, n + 64, 4096, 4098, 1<<16 + 2, 1<<31 + 2, math.MaxUint32} {
			for _, l := range [][]uint32{{addr}, {addr, 2, 5}, {2, addr, 5}, {2, 5, addr}, append(run(2, size), addr)} {
				errs(t, fmt.Sprintf("Keep of %d, of %d", addr, size), p.Keep(l), api.ErrArg)
			}
		}
		is(t, p, size, 3, 9)
	}
}

// P13.1: what Keep is handed is neither changed nor kept; what Taken answers is new memory.
func TestListsAreApart(t *testing.T) {
	p, d := begun(t, 16, 1)
	room := []uint32{9, 3, 3, 5, 0, 99}
	errs(t, "Keep", p.Keep(room[:4]), api.OK)
	if !slices.Equal(room, []uint32{9, 3, 3, 5, 0, 99}) {
		t.Errorf("an argument was changed: %d", room)
	}
	clear(room)
	is(t, p, 16, 3, 5, 9)
	a, b := p.Taken(), p.Taken()
	clear(a[:cap(a)])
	writes(t, p, d, 1, 2, leaf())
	is(t, p, 16, 2, 3, 5, 9)
	if !slices.Equal(b, []uint32{3, 5, 9}) || !slices.Equal(room, make([]uint32, 6)) {
		t.Errorf("a list was changed later: %d, %d", b, room)
	}
}

// P13.2: the chapter's example.
func TestExample(t *testing.T) {
	d, _ := dev.New(16)
	p, e := New(d, master)
	errs(t, "New", e, api.OK)
	errs(t, "Begin", p.Begin(1), api.OK)
	at, e := p.Write(api.Node{Leaf: true})
	if at.Addr != 2 || at.Birth != 1 || e != api.OK {
		t.Errorf("%v, error %d", at, e)
	}
	flush(t, d)
	b := peek(t, d, 2)
	b[100] ^= 1
	errs(t, "Poke", d.Poke(2, b), api.OK)
	fails(t, "turned", p, at, api.ErrSum)
}

// P13.2, P13.3: nodes of all kinds, of births and in sectors at all edges, under derived keys and others.
func TestWriteAndRead(t *testing.T) {
	for i, k := range []seal.Keys{master, {}, seal.Derive(nil)} {
		d, _ := dev.New(4096)
		p, e := New(d, k)
		errs(t, "New", e, api.OK)
		for _, birth := range births {
			errs(t, "Begin", p.Begin(birth), api.OK)
			for _, addr := range []uint32{2, 3, 255, 256, 4095} {
				for j, n := range nodes() {
					errs(t, "Keep", p.Keep(run(2, int(addr))), api.OK)
					at := writes(t, p, d, birth, addr, n)
					reads(t, fmt.Sprintf("keys %d, birth %d, sector %d, node %d", i, birth, addr, j), p, at, n)
				}
			}
		}
	}
}

// P13.2: all sectors are taken, the lowest first, each once; then none is free, and nothing is written.
func TestWriteOfAll(t *testing.T) {
	for _, size := range []int{16, 17, 66, 130, 4096} {
		p, d := begun(t, size, 5)
		for addr := 2; addr < size; addr++ {
			writes(t, p, d, 5, uint32(addr), leaf("k", fmt.Sprint(addr)))
			if p.Left() != size-addr-1 || d.Waits() != addr-1 {
				t.Errorf("sector %d of %d: %d left, %d wait", addr, size, p.Left(), d.Waits())
			}
		}
		is(t, p, size, run(2, size)...)
		for range 3 {
			refuses(t, "full", p, d, leaf("a", "b"), api.ErrFull)
		}
		for addr := range uint32(2) {
			if b, _ := d.Read(addr); !slices.Equal(b, make([]byte, 512)) {
				t.Errorf("sector %d of %d was written", addr, size)
			}
		}
		errs(t, "Keep", p.Keep(run(2, size-1)), api.OK)
		writes(t, p, d, 5, uint32(size-1), leaf("a", "b"))
		refuses(t, "full again", p, d, leaf("a", "b"), api.ErrFull)
	}
}

// P13.2: it is the lowest free sector, wherever those that are taken lie.
func TestWriteTakesTheLowest(t *testing.T) {
	for _, taken := range [][]uint32{nil, {2}, {3}, {2, 3}, {2, 4}, {2, 3, 5, 6}, {15}, run(2, 15), run(3, 16)} {
		p, d := begun(t, 16, 7)
		errs(t, "Keep", p.Keep(taken), api.OK)
		taken = slices.Clone(taken)
		for range 14 - len(taken) {
			want := uint32(2)
			for slices.Contains(taken, want) {
				want++
			}
			writes(t, p, d, 7, want, leaf("a", "b"))
			taken = append(taken, want)
			slices.Sort(taken)
			is(t, p, 16, taken...)
		}
		refuses(t, "full", p, d, leaf("a", "b"), api.ErrFull)
	}
}

// P13.2: it waits on the device, and lies there when that is flushed.
func TestWriteDoesNotFlush(t *testing.T) {
	p, d := begun(t, 16, 1)
	for i, n := range nodes() {
		addr := uint32(2 + i)
		at := writes(t, p, d, 1, addr, n)
		if !slices.Equal(peek(t, d, addr), make([]byte, 512)) || d.Waits() != i+1 {
			t.Errorf("node %d: flushed, or %d wait", i, d.Waits())
		}
		reads(t, fmt.Sprintf("node %d waits", i), p, at, n)
	}
	flush(t, d)
	for i, n := range nodes() {
		want, at := sealed(t, master, 1, uint32(2+i), plainly(n))
		if string(peek(t, d, uint32(2+i))) != want {
			t.Errorf("node %d isn't there", i)
		}
		reads(t, fmt.Sprintf("node %d lies there", i), p, at, n)
	}
}

// P13.2: without a birth nothing is written, whatever else is wrong.
func TestWriteOfNoBirth(t *testing.T) {
	for _, full := range []bool{false, true} {
		for _, limit := range []int{-1, 0} {
			p, d := made(t, 16)
			if full {
				errs(t, "Keep", p.Keep(run(2, 16)), api.OK)
			}
			d.Limit(limit)
			for i, n := range nodes() {
				refuses(t, fmt.Sprintf("node %d, full %v, limit %d", i, full, limit), p, d, n, api.ErrArg)
			}
			for i, w := range wrongNodes() {
				refuses(t, fmt.Sprintf("wrong node %d, full %v, limit %d", i, full, limit), p, d, w.n, api.ErrArg)
			}
			errs(t, "Begin(0)", p.Begin(0), api.ErrArg)
			refuses(t, "behind Begin(0)", p, d, leaf("a", "b"), api.ErrArg)
			if d.Down() {
				t.Error("the device was asked")
			}
		}
	}
}

// P13.2: a node that may not be isn't written, and takes nothing, whatever is wrong behind it.
func TestWriteOfWrongNodes(t *testing.T) {
	for _, full := range []bool{false, true} {
		for _, limit := range []int{-1, 0} {
			p, d := begun(t, 16, 3)
			if full {
				errs(t, "Keep", p.Keep(run(2, 16)), api.OK)
			}
			d.Limit(limit)
			for i, w := range wrongNodes() {
				refuses(t, fmt.Sprintf("wrong node %d, full %v, limit %d", i, full, limit), p, d, w.n, w.err)
			}
			if d.Down() {
				t.Error("the device was asked")
			}
		}
	}
}

// P13.2: a node may lead to sectors that the device hasn't: layer 9 asks for no more than the greatest one's.
func TestWriteOfKidsBeyondTheDevice(t *testing.T) {
	p, d := begun(t, 16, 3)
	reads(t, "kids beyond", p, writes(t, p, d, 3, 2, branch("m")), branch("m"))
}

// P13.2: a device that would get down isn't asked, if no sector is free.
func TestFullAheadOfDown(t *testing.T) {
	p, d := begun(t, 16, 3)
	errs(t, "Keep", p.Keep(run(2, 16)), api.OK)
	d.Limit(0)
	refuses(t, "full", p, d, leaf("a", "b"), api.ErrFull)
	if d.Down() {
		t.Error("the device was asked")
	}
	errs(t, "Flush", d.Flush(), api.ErrDown)
	refuses(t, "full and down", p, d, leaf("a", "b"), api.ErrFull)
}

// P13.2: behind the device's error the sector isn't taken any more, and those that were are.
func TestWriteOnADeviceThatIsDown(t *testing.T) {
	for _, taken := range [][]uint32{nil, {2}, {2, 3, 5}, {15}, run(2, 15), run(3, 16)} {
		p, d := begun(t, 16, 4)
		errs(t, "Keep", p.Keep(taken), api.OK)
		d.Limit(0)
		for i, n := range nodes() {
			refuses(t, fmt.Sprintf("node %d", i), p, d, n, api.ErrDown)
			is(t, p, 16, taken...)
		}
		if !d.Down() {
			t.Error("the device wasn't asked")
		}
		d.Crash(0, -1)
		want := uint32(2)
		for slices.Contains(taken, want) {
			want++
		}
		writes(t, p, d, 4, want, leaf("a", "b"))
	}
}

// P13.2: each Write is one of the device's, so that as many go well as the limit says.
func TestWriteCountsOnce(t *testing.T) {
	for limit := range 14 {
		p, d := begun(t, 16, 4)
		d.Limit(limit)
		refuses(t, "a wrong node", p, d, api.Node{}, api.ErrForm)
		for i := range limit {
			at := writes(t, p, d, 4, uint32(2+i), leaf("a", "b"))
			reads(t, "within the limit", p, at, leaf("a", "b"))
		}
		refuses(t, "beyond the limit", p, d, leaf("a", "b"), api.ErrDown)
		is(t, p, 16, run(2, 2+limit)...)
	}
}

// P13.2: pointers that are null, or may not be on such a device, up or down.
func TestReadOfWrongPointers(t *testing.T) {
	for _, size := range sizes {
		p, d := made(t, size)
		n := uint32(size)
		l := []api.Ptr{{}, {Birth: 1}, {Sum: api.Hash{1}}, {Birth: 1, Sum: sha256.Sum256(make([]byte, 512))}, {Addr: 2}, {Addr: n - 1}}
		for _, addr := range []uint32{1, n, n + 1, 4096, 1<<16 + 2, 1<<31 + 2, math.MaxUint32} {
			l = append(l, api.Ptr{Addr: addr, Birth: 1}, api.Ptr{Addr: addr})
		}
		ask := func(what string) {
			for _, at := range l {
				fails(t, fmt.Sprintf("%d, %s, %v", size, what, at), p, at, api.ErrArg)
			}
		}
		ask("up")
		fails(t, "the first sector", p, api.Ptr{Addr: 2, Birth: 1}, api.ErrSum)
		fails(t, "the last sector", p, api.Ptr{Addr: n - 1, Birth: 1}, api.ErrSum)
		d.Limit(0)
		d.Flush()
		ask("down")
	}
}

// P13.2: neither is an uber's sector read as a node's, nor one by a birth of 0, though the sums are right.
func TestReadOfSectorsThatAreNoNodes(t *testing.T) {
	p, d := made(t, 16)
	for _, c := range []struct {
		birth uint64
		addr  uint32
	}{{1, 0}, {1, 1}, {0, 2}, {0, 0}} {
		b, at := sealed(t, master, c.birth, c.addr, plainly(leaf("a", "b")))
		errs(t, "Poke", d.Poke(c.addr, []byte(b)), api.OK)
		fails(t, fmt.Sprint(c), p, at, api.ErrArg)
	}
}

// P13.2: of a device that is down nothing is read, whatever lies there.
func TestReadOnADeviceThatIsDown(t *testing.T) {
	p, d := begun(t, 16, 4)
	at := writes(t, p, d, 4, 2, leaf("a", "b"))
	flush(t, d)
	d.Limit(0)
	reads(t, "up", p, at, leaf("a", "b"))
	errs(t, "Flush", d.Flush(), api.ErrDown)
	fails(t, "down", p, at, api.ErrDown)
	fails(t, "down, of another sum", p, api.Ptr{Addr: 2, Birth: 4}, api.ErrDown)
	fails(t, "down, of a sector that wasn't written", p, api.Ptr{Addr: 9, Birth: 4}, api.ErrDown)
	d.Crash(0, -1)
	reads(t, "up again", p, at, leaf("a", "b"))
}

// P13.2: blocks that are sealed, and are no node's.
func TestReadOfBlocksThatAreNoNodes(t *testing.T) {
	p, d := made(t, 16)
	l := [][]byte{make([]byte, 512), plainly(leaf("b", "", "a", "")), plainly(api.Node{}), plainly(branch())}
	for i := range 512 {
		b := plainly(leaf("a", "b"))
		b[i] ^= 0x80 // none such is a node's: the kind, a count, a size, or a nought behind all
		if i != 3 && i != 5 {
			l = append(l, b)
		}
	}
	for i, block := range l {
		b, at := sealed(t, master, 6, 7, block)
		errs(t, "Poke", d.Poke(7, []byte(b)), api.OK)
		fails(t, fmt.Sprintf("block %d", i), p, at, api.ErrForm)
	}
}

// P13.2: what isn't taken is read too, and what is read isn't taken by that; it counts for no limit.
func TestReadLeavesAllElse(t *testing.T) {
	p, d := begun(t, 16, 4)
	at := writes(t, p, d, 4, 2, leaf("a", "b"))
	errs(t, "Keep", p.Keep([]uint32{5}), api.OK)
	d.Limit(1)
	for range 5 {
		reads(t, "not taken", p, at, leaf("a", "b"))
		fails(t, "not written", p, api.Ptr{Addr: 5, Birth: 1}, api.ErrSum)
	}
	is(t, p, 16, 5)
	if d.Waits() != 1 || d.Down() {
		t.Errorf("%d wait, down %v", d.Waits(), d.Down())
	}
	flush(t, d)
}

// P13.2, P13.3: a pool of the same device and keys reads what another one wrote, without a birth of its own.
func TestReadByAnotherPool(t *testing.T) {
	p, d := begun(t, 16, 4)
	at := writes(t, p, d, 4, 2, branch("b", "d"))
	other, _ := New(d, master)
	reads(t, "another pool", other, at, branch("b", "d"))
	macless := master
	macless.Mac = api.Hash{}
	other, _ = New(d, macless)
	reads(t, "another Mac", other, at, branch("b", "d"))
	for bit := range 256 {
		k := master
		k.Enc[bit/8] ^= 1 << (bit % 8)
		other, _ = New(d, k)
		fails(t, fmt.Sprintf("bit %d of Enc", bit), other, at, api.ErrForm)
	}
}

// P13.3: a bit turned, of what lies there or of the pointer, and nothing is read.
func TestReadOfABitTurned(t *testing.T) {
	p, d := begun(t, 4096, 4)
	at := writes(t, p, d, 4, 2, leaf("a", "b"))
	flush(t, d)
	b := peek(t, d, 2)
	for bit := range 8 * len(b) {
		b[bit/8] ^= 1 << (bit % 8)
		errs(t, "Poke", d.Poke(2, b), api.OK)
		fails(t, fmt.Sprintf("bit %d", bit), p, at, api.ErrSum)
		b[bit/8] ^= 1 << (bit % 8)
	}
	errs(t, "Poke", d.Poke(2, b), api.OK)
	for bit := range 256 {
		other := at
		other.Sum[bit/8] ^= 1 << (bit % 8)
		fails(t, fmt.Sprintf("bit %d of the sum", bit), p, other, api.ErrSum)
	}
	for bit := range 64 {
		other := at
		other.Birth ^= 1 << bit
		err := api.ErrForm
		if other.Birth == 0 {
			err = api.ErrArg
		}
		fails(t, fmt.Sprintf("bit %d of the birth", bit), p, other, err)
	}
	for bit := range 32 {
		other := at
		other.Addr ^= 1 << bit
		err := api.ErrSum
		if other.Addr < 2 || other.Addr > 4095 {
			err = api.ErrArg
		}
		fails(t, fmt.Sprintf("bit %d of the address", bit), p, other, err)
	}
	reads(t, "none turned", p, at, leaf("a", "b"))
}

// P13.3: what was overwritten, moved, lost, or torn isn't read as anything else.
func TestReadOfWhatIsNotThere(t *testing.T) {
	p, d := begun(t, 16, 4)
	a := writes(t, p, d, 4, 2, leaf("a", "b"))
	flush(t, d)
	errs(t, "Keep", p.Keep(nil), api.OK)
	b := writes(t, p, d, 4, 2, leaf("a", "c"))
	fails(t, "overwritten", p, a, api.ErrSum)
	reads(t, "what overwrites", p, b, leaf("a", "c"))
	d.Crash(0, -1)
	reads(t, "overwritten, and lost", p, a, leaf("a", "b"))
	fails(t, "lost", p, b, api.ErrSum)

	errs(t, "Begin", p.Begin(5), api.OK)
	errs(t, "Keep", p.Keep(nil), api.OK)
	c := writes(t, p, d, 5, 2, leaf("a", "b"))
	d.Crash(math.MaxUint64, 0)
	fails(t, "torn", p, c, api.ErrSum)
	fails(t, "torn upon", p, a, api.ErrSum)

	errs(t, "Keep", p.Keep(nil), api.OK)
	c = writes(t, p, d, 5, 2, leaf("a", "b"))
	e := writes(t, p, d, 5, 3, leaf("a", "b"))
	d.Crash(math.MaxUint64, -1)
	reads(t, "kept", p, c, leaf("a", "b"))
	errs(t, "Poke", d.Poke(4, peek(t, d, 3)), api.OK)
	e.Addr = 4
	fails(t, "moved", p, e, api.ErrForm)
}

// P13.2: a node that is handed in is neither changed nor kept, its spare room included.
func TestNodesStay(t *testing.T) {
	for i, n := range nodes() {
		keys, vals, kids := append(slices.Clone(n.Keys), "spare"), append(slices.Clone(n.Vals), "spare"), append(slices.Clone(n.Kids), api.Ptr{Addr: 9})
		m := api.Node{Leaf: n.Leaf, Keys: keys[:len(n.Keys)], Vals: vals[:len(n.Vals)], Kids: kids[:len(n.Kids)]}
		p, d := begun(t, 16, 4)
		at := writes(t, p, d, 4, 2, m)
		if !alike(m, n) || keys[len(n.Keys)] != "spare" || vals[len(n.Vals)] != "spare" || kids[len(n.Kids)] != (api.Ptr{Addr: 9}) {
			t.Errorf("node %d was changed", i)
		}
		clear(keys)
		clear(vals)
		clear(kids)
		reads(t, fmt.Sprintf("node %d", i), p, at, n)
	}
}

// P13.2: a node that is answered is new memory, its spare room too.
func TestNodesAreNew(t *testing.T) {
	for i, n := range nodes() {
		p, d := begun(t, 16, 4)
		at := writes(t, p, d, 4, 2, n)
		a, _ := p.Read(at)
		b, _ := p.Read(at)
		clear(a.Keys[:cap(a.Keys)])
		clear(a.Vals[:cap(a.Vals)])
		clear(a.Kids[:cap(a.Kids)])
		if !alike(b, n) {
			t.Errorf("node %d was changed with another answer", i)
		}
		reads(t, fmt.Sprintf("node %d", i), p, at, n)
	}
}

// P13.1: pools of one device have a space and a birth each, and those of two devices nothing in common.
func TestPoolsAreApart(t *testing.T) {
	p, d := begun(t, 16, 4)
	same, _ := New(d, master)
	far, other := made(t, 16)
	at := writes(t, p, d, 4, 2, leaf("a", "b"))
	for what, q := range map[string]*Pool{"of the same device": same, "of another one": far} {
		is(t, q, 16)
		if _, e := q.Write(leaf("a", "b")); e != api.ErrArg {
			t.Errorf("%s: error %d", what, e)
		}
	}
	reads(t, "the same device", same, at, leaf("a", "b"))
	fails(t, "another device", far, at, api.ErrSum)
	errs(t, "Begin", same.Begin(9), api.OK)
	writes(t, p, d, 4, 3, leaf("a", "b"))
	if other.Waits() != 0 {
		t.Error("another device was written")
	}
}

// P13.1, P13.2: of a nil Pool, whatever else is wrong.
func TestNilPool(t *testing.T) {
	var p *Pool
	for _, birth := range []uint64{0, 1, math.MaxUint64} {
		errs(t, "Begin", p.Begin(birth), api.ErrNil)
	}
	for _, n := range []api.Node{{}, leaf(), leaf("a", "b"), bigLeaf(13)} {
		if at, e := p.Write(n); at != (api.Ptr{}) || e != api.ErrNil {
			t.Errorf("Write: %v, error %d", at, e)
		}
	}
	for _, at := range []api.Ptr{{}, {Addr: 2, Birth: 1}, {Addr: math.MaxUint32}} {
		fails(t, fmt.Sprint(at), p, at, api.ErrNil)
	}
	for _, l := range [][]uint32{nil, {}, {2}, {0}} {
		errs(t, "Keep", p.Keep(l), api.ErrNil)
	}
	if p.Left() != 0 || len(p.Taken()) != 0 {
		t.Errorf("%d left, %d taken", p.Left(), p.Taken())
	}
}

// P1: no call of a Pool that New didn't make panics, nor of one of a device that its New didn't make; they have no sectors.
func TestPoolOfNoSectors(t *testing.T) {
	bare, e := New(&dev.Dev{}, master)
	if bare == nil || e != api.OK {
		t.Fatalf("New: error %d", e)
	}
	for i, p := range []*Pool{{}, bare} {
		what := fmt.Sprintf("pool %d", i)
		refuse := func(n api.Node, err api.Errno) {
			t.Helper()
			if at, e := p.Write(n); at != (api.Ptr{}) || e != err {
				t.Errorf("%s: Write: %v, error %d, not %d", what, at, e, err)
			}
		}
		refuse(leaf(), api.ErrArg)
		errs(t, what, p.Begin(0), api.ErrArg)
		errs(t, what, p.Begin(1), api.OK)
		refuse(api.Node{}, api.ErrForm)
		refuse(leaf(), api.ErrFull)
		for _, at := range []api.Ptr{{}, {Addr: 1, Birth: 1}, {Addr: 2, Birth: 1}} {
			fails(t, what, p, at, api.ErrArg)
		}
		errs(t, what, p.Keep(nil), api.OK)
		errs(t, what, p.Keep([]uint32{2}), api.ErrArg)
		if p.Left() != 0 || len(p.Taken()) != 0 {
			t.Errorf("%s: %d left, %d taken", what, p.Left(), p.Taken())
		}
	}
}

// plain is a pool as the chapter tells it, with all that was ever written, and where.
type plain struct {
	size  int
	birth uint64
	taken map[uint32]bool
	met   []api.Ptr
	wrote map[api.Ptr]api.Node
}

// lowest is the lowest free sector, or 0.
func (m *plain) lowest() uint32 {
	for addr := range uint32(m.size) {
		if addr >= 2 && !m.taken[addr] {
			return addr
		}
	}
	return 0
}

// write does one Write in both pools.
func (m *plain) write(t *testing.T, r *rand.Rand, p *Pool, d *dev.Dev) {
	t.Helper()
	n := nodes()[r.Intn(len(nodes()))]
	addr := m.lowest()
	switch {
	case m.birth == 0:
		refuses(t, "no birth", p, d, n, api.ErrArg)
	case addr == 0:
		refuses(t, "full", p, d, n, api.ErrFull)
	case d.Down():
		refuses(t, "down", p, d, n, api.ErrDown)
	default:
		_, want := sealed(t, master, m.birth, addr, plainly(n))
		at, e := p.Write(n)
		if e == api.ErrDown && d.Down() && at == (api.Ptr{}) {
			return // the limit's end
		}
		if at != want || e != api.OK {
			t.Fatalf("Write: %v, error %d, not %v", at, e, want)
		}
		m.taken[addr] = true
		if _, there := m.wrote[at]; !there {
			m.met = append(m.met, at)
		}
		m.wrote[at] = n
	}
}

// read reads what was written some time: it is there, if its sum is the sector's.
func (m *plain) read(t *testing.T, r *rand.Rand, p *Pool, d *dev.Dev) {
	t.Helper()
	if len(m.met) == 0 {
		return
	}
	at := m.met[r.Intn(len(m.met))]
	b, e := d.Read(at.Addr)
	switch {
	case e != api.OK:
		fails(t, "down", p, at, e)
	case sha256.Sum256(b) != at.Sum:
		fails(t, "not there", p, at, api.ErrSum)
	default:
		reads(t, "there", p, at, m.wrote[at])
	}
}

// keep has both keep some.
func (m *plain) keep(t *testing.T, r *rand.Rand, p *Pool) {
	t.Helper()
	var l []uint32
	kept, err := map[uint32]bool{}, api.OK
	for range r.Intn(m.size) {
		addr := uint32(2 + r.Intn(m.size-2))
		if r.Intn(50) == 0 {
			addr = []uint32{0, 1, uint32(m.size)}[r.Intn(3)]
			err = api.ErrArg
		}
		l, kept[addr] = append(l, addr), true
	}
	errs(t, "Keep", p.Keep(l), err)
	if err == api.OK {
		m.taken = kept
	}
}

// shake does something to the device that no pool is told of.
func (m *plain) shake(r *rand.Rand, d *dev.Dev) {
	switch r.Intn(5) {
	case 0:
		d.Flush()
	case 1:
		d.Crash(r.Uint64(), r.Intn(d.Waits()+1)-1)
	case 2:
		d.Limit(r.Intn(20))
	default:
		addr := uint32(r.Intn(m.size))
		b, _ := d.Peek(addr)
		b[r.Intn(512)] ^= 1 << r.Intn(8)
		d.Poke(addr, b)
	}
}

// P13.3: many things in turn, beside a pool that is told plainly: what was written is read, or isn't there.
func TestBesidePlainPool(t *testing.T) {
	for seed, size := range []int{16, 17, 40, 100} {
		r := rand.New(rand.NewSource(int64(seed)))
		p, d := made(t, size)
		m := &plain{size: size, taken: map[uint32]bool{}, wrote: map[api.Ptr]api.Node{}}
		for range 4000 {
			switch n := r.Intn(100); {
			case n < 40:
				m.write(t, r, p, d)
			case n < 80:
				m.read(t, r, p, d)
			case n < 85:
				m.keep(t, r, p)
			case n < 90:
				birth := uint64(r.Intn(4))
				errs(t, "Begin", p.Begin(birth), map[bool]api.Errno{true: api.ErrArg, false: api.OK}[birth == 0])
				if birth != 0 {
					m.birth = birth
				}
			default:
				m.shake(r, d)
			}
			var taken []uint32
			for addr := range m.taken {
				taken = append(taken, addr)
			}
			slices.Sort(taken)
			is(t, p, size, taken...)
		}
		if len(m.met) < 100 {
			t.Errorf("just %d were written", len(m.met))
		}
	}
}

// P13.1 to P13.3: the same calls are answered the same.
func TestAnswersHangOnCallsAlone(t *testing.T) {
	answers := func() []any {
		p, d := begun(t, 16, 8)
		var l []any
		for _, n := range nodes() {
			at, e := p.Write(n)
			m, f := p.Read(at)
			l = append(l, at, e, m, f, p.Taken(), p.Left(), d.Waits())
		}
		return l
	}
	if !reflect.DeepEqual(answers(), answers()) {
		t.Error("two answers")
	}
}
