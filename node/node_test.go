package node

import (
	"bytes"
	"fmt"
	"math"
	"math/rand"
	"slices"
	"strings"
	"testing"

	"banyan/api"
)

// kid is a pointer that may be, another for each seed below 4094.
func kid(seed int) api.Ptr {
	p := api.Ptr{Addr: uint32(2 + seed), Birth: uint64(seed)*0x0102030405 + 1}
	for i := range p.Sum {
		p.Sum[i] = byte(seed + i + 1)
	}
	return p
}

// kids are that many.
func kids(count int) []api.Ptr {
	l := make([]api.Ptr, count)
	for i := range l {
		l[i] = kid(i)
	}
	return l
}

// rising are that many keys of that many bytes, at least two.
func rising(count, size int) []string {
	l := make([]string, count)
	for i := range l {
		l[i] = string([]byte{byte(i >> 8), byte(i)}) + strings.Repeat("k", size-2)
	}
	return l
}

// leafOf and branchOf are nodes of those keys.
func leafOf(keys ...string) api.Node {
	return api.Node{Leaf: true, Keys: keys, Vals: make([]string, len(keys))}
}

func branchOf(keys ...string) api.Node {
	return api.Node{Keys: keys, Kids: kids(len(keys) + 1)}
}

// branchOfLast is one of ten keys, the last one of that many bytes: 505 bytes and these.
func branchOfLast(size int) api.Node {
	return branchOf("a", "b", "c", "d", "e", "f", "g", "h", "i", strings.Repeat("j", size))
}

// leafOfSize is a leaf of that many bytes: from 17 on, but neither 498 nor 499.
func leafOfSize(size int) api.Node {
	n := leafOf("a", "b", "c", "d", "e")
	size -= 2 + 5*3
	for i := range n.Vals {
		n.Vals[i] = strings.Repeat("v", min(size, 96))
		size -= len(n.Vals[i])
	}
	if size > 0 { // a further key and its value, three bytes at least
		n.Keys = append(n.Keys, "f")
		n.Vals = append(n.Vals, strings.Repeat("v", size-3))
	}
	return n
}

// sizeOf is how many bytes a node has, told plainly.
func sizeOf(n api.Node) int {
	size := 2 + 44*len(n.Kids)
	for _, s := range append(slices.Clone(n.Keys), n.Vals...) {
		size += 1 + len(s)
	}
	return size
}

// ofNode is a node's bytes, told plainly.
func ofNode(n api.Node) []byte {
	b := []byte{2, byte(len(n.Keys))}
	if n.Leaf {
		b[0] = 1
	}
	for i, key := range n.Keys {
		b = append(append(b, byte(len(key))), key...)
		if n.Leaf {
			b = append(append(b, byte(len(n.Vals[i]))), n.Vals[i]...)
		}
	}
	for _, p := range n.Kids {
		for i := 3; i >= 0; i-- {
			b = append(b, byte(p.Addr>>(8*i)))
		}
		for i := 7; i >= 0; i-- {
			b = append(b, byte(p.Birth>>(8*i)))
		}
		b = append(b, p.Sum[:]...)
	}
	return append(b, make([]byte, 512-len(b))...)
}

// clone is a node that shares nothing with the one it is of.
func clone(n api.Node) api.Node {
	return api.Node{Leaf: n.Leaf, Keys: slices.Clone(n.Keys), Vals: slices.Clone(n.Vals), Kids: slices.Clone(n.Kids)}
}

// equal says, told plainly, whether two nodes are the same.
func equal(a, b api.Node) bool {
	same := a.Leaf == b.Leaf && len(a.Keys) == len(b.Keys) && len(a.Vals) == len(b.Vals) && len(a.Kids) == len(b.Kids)
	for i := 0; same && i < len(a.Keys); i++ {
		same = a.Keys[i] == b.Keys[i]
	}
	for i := 0; same && i < len(a.Vals); i++ {
		same = a.Vals[i] == b.Vals[i]
	}
	for i := 0; same && i < len(a.Kids); i++ {
		same = a.Kids[i] == b.Kids[i]
	}
	return same
}

// named is a node, and what it is.
type named struct {
	what string
	n    api.Node
}

// anyBytes is a text by chance, of at least one size and at most another.
func anyBytes(c *rand.Rand, least, most int) string {
	b := make([]byte, least+c.Intn(most-least+1))
	for i := range b {
		b[i] = byte(c.Intn(256))
	}
	return string(b)
}

// anyKeys are keys by chance, in order, at most that many.
func anyKeys(c *rand.Rand, most, size int) []string {
	var l []string
	for range c.Intn(most + 1) {
		l = append(l, anyBytes(c, 1, size))
	}
	slices.Sort(l)
	return slices.Compact(l)
}

// anyNode is one by chance, that may be; its bytes too.
func anyNode(c *rand.Rand) api.Node {
	for {
		n := api.Node{Leaf: c.Intn(2) == 0}
		if n.Leaf {
			most := 1 + c.Intn(96)
			n.Keys = anyKeys(c, c.Intn(200), 1+c.Intn(32))
			for range n.Keys {
				n.Vals = append(n.Vals, anyBytes(c, 0, most))
			}
		} else {
			n.Keys = append(anyKeys(c, 9, 1+c.Intn(31)), strings.Repeat("\xff", 32))
			for range len(n.Keys) + 1 {
				p := api.Ptr{Addr: 2 + uint32(c.Intn(4094)), Birth: 1 + c.Uint64()>>c.Intn(64)}
				c.Read(p.Sum[:])
				n.Kids = append(n.Kids, p)
			}
		}
		if sizeOf(n) <= 512 {
			return n
		}
	}
}

// good are nodes that may be, at all edges.
func good() []named {
	long := strings.Repeat("z", 32)
	l := []named{
		{"a leaf of nothing", api.Node{Leaf: true}},
		{"a leaf of empty lists", api.Node{Leaf: true, Keys: []string{}, Vals: []string{}, Kids: []api.Ptr{}}},
		{"a leaf of one", leafOf("a")},
		{"a leaf of a nought", leafOf("\x00")},
		{"a leaf of noughts", leafOf("\x00", "\x00\x00", "\x00\x00\x00")},
		{"a leaf of the longest key", leafOf(long)},
		{"a leaf of no letters", leafOf("\x7f", "\x80", "\xc3", "\xff")},
		{"a leaf of many parts", leafOf("a", "aa", "ab", "abc", "b")},
		{"a leaf of the longest value", api.Node{Leaf: true, Keys: []string{"a"}, Vals: []string{strings.Repeat("\xff", 96)}}},
		{"a leaf of 512 bytes", leafOfSize(512)},
		{"a leaf of 511 bytes", leafOfSize(511)},
		{"a leaf of the most keys", mostKeys()},
		{"another node of one", branchOf("a")},
		{"another node of empty values", api.Node{Keys: []string{"a"}, Vals: []string{}, Kids: kids(2)}},
		{"another node of a nought", branchOf("\x00")},
		{"another node of the longest key", branchOf(long)},
		{"another node of the most kids", branchOf("a", "b", "c", "d", "e", "f", "g", "h", "i", "j")},
		{"another node of 512 bytes", branchOfLast(7)},
		{"another node of one kid twice", api.Node{Keys: []string{"a"}, Kids: []api.Ptr{kid(5), kid(5)}}},
		{"the kids' edges", api.Node{Keys: []string{"a"}, Kids: []api.Ptr{{Addr: 2, Birth: 1}, {Addr: 4095, Birth: math.MaxUint64}}}},
	}
	c := rand.New(rand.NewSource(9))
	for i := range 300 {
		l = append(l, named{fmt.Sprintf("by chance %d", i), anyNode(c)})
	}
	return l
}

// mostKeys is a leaf of as many keys as 512 bytes have room for: 170 of three bytes.
func mostKeys() api.Node {
	var keys []string
	for i := range 170 {
		keys = append(keys, string([]byte{byte(i + 50)}))
	}
	return leafOf(keys...)
}

// bad are nodes that may not be, whatever their size.
func bad() []named {
	long := strings.Repeat("z", 33)
	l := []named{
		{"nothing", api.Node{}},
		{"a kid and no key", api.Node{Kids: kids(1)}},
		{"a leaf of no values", api.Node{Leaf: true, Keys: []string{"a"}}},
		{"a leaf of a value too few", api.Node{Leaf: true, Keys: []string{"a", "b"}, Vals: []string{"x"}}},
		{"a leaf of a value too many", api.Node{Leaf: true, Keys: []string{"a"}, Vals: []string{"x", "y"}}},
		{"a leaf of a value alone", api.Node{Leaf: true, Vals: []string{""}}},
		{"a leaf of a kid", api.Node{Leaf: true, Kids: kids(1)}},
		{"a leaf of kids", api.Node{Leaf: true, Keys: []string{"a"}, Vals: []string{""}, Kids: kids(2)}},
		{"a leaf of a null kid", api.Node{Leaf: true, Kids: make([]api.Ptr, 1)}},
		{"another node of a value", api.Node{Keys: []string{"a"}, Vals: []string{""}, Kids: kids(2)}},
		{"another node of values", api.Node{Keys: []string{"a", "b"}, Vals: []string{"x", "y"}, Kids: kids(3)}},
		{"another node of no kids", api.Node{Keys: []string{"a"}}},
		{"another node of a kid", api.Node{Keys: []string{"a"}, Kids: kids(1)}},
		{"another node of a kid too many", api.Node{Keys: []string{"a"}, Kids: kids(3)}},
		{"a value too long", api.Node{Leaf: true, Keys: []string{"a"}, Vals: []string{strings.Repeat("v", 97)}}},
		{"a value far too long", api.Node{Leaf: true, Keys: []string{"a"}, Vals: []string{strings.Repeat("v", 1<<20)}}},
		{"the last value too long", api.Node{Leaf: true, Keys: []string{"a", "b"}, Vals: []string{"", strings.Repeat("v", 97)}}},
	}
	for _, keys := range [][]string{{""}, {"", "a"}, {"a", ""}, {long}, {"a", long}, {long, "zz"}, {strings.Repeat("z", 1<<20)},
		{"a", "a"}, {"b", "a"}, {"a", "b", "b"}, {"a", "c", "b"}, {"b", "c", "a"}, {"b", "a", "c"}, {"ab", "a"},
		{"\x80", "\x7f"}, {"\xff", "a"}, {"a\x00", "a"}, {"b", "B"}, {"9", "10"}, {"\xc3\xa9", "e", "z"}} {
		l = append(l, named{fmt.Sprintf("a leaf of %.40q", keys), leafOf(keys...)},
			named{fmt.Sprintf("another node of %.40q", keys), branchOf(keys...)})
	}
	for place := range 3 {
		for _, p := range []api.Ptr{{}, {Birth: 1}, {Addr: 1, Birth: 1}, {Addr: 4096, Birth: 1}, {Addr: math.MaxUint32, Birth: 1},
			{Addr: 2}, {Addr: 4095, Sum: api.Hash{1}}, {Sum: api.Hash{1}}, {Birth: 1, Sum: api.Hash{1}}} {
			n := branchOf("a", "b")
			n.Kids[place] = p
			l = append(l, named{fmt.Sprintf("at %d the kid %v", place, p), n})
		}
	}
	return l
}

// full are nodes of more than 512 bytes, that may be but for that.
func full() []named {
	return []named{
		{"a leaf of 513 bytes", leafOfSize(513)},
		{"a leaf of 560 bytes", leafOfSize(560)},
		{"a leaf of a key too many", leafOf(append(mostKeys().Keys, "\xff")...)},
		{"a leaf of 255 keys", leafOf(rising(255, 2)...)},
		{"a leaf of 256 keys", leafOf(rising(256, 2)...)},
		{"a leaf of 257 keys", leafOf(rising(257, 2)...)},
		{"a leaf of 1000 keys", leafOf(rising(1000, 32)...)},
		{"another node of 513 bytes", branchOfLast(8)},
		{"another node of a key too many", branchOf("a", "b", "c", "d", "e", "f", "g", "h", "i", "j", "k")},
		{"another node of long keys", branchOf(rising(7, 32)...)},
		{"another node of 256 keys", branchOf(rising(256, 2)...)},
		{"another node of 1000 keys", branchOf(rising(1000, 2)...)},
	}
}

// errs tells if an error is that one.
func errs(t *testing.T, what string, got, want api.Errno) {
	t.Helper()
	if got != want {
		t.Errorf("%s: error %d, not %d", what, got, want)
	}
}

// gets tells if those bytes are of a node, and which.
func gets(t *testing.T, what string, b []byte, want api.Node, wantErr api.Errno) {
	t.Helper()
	n, e := Get(b)
	errs(t, what, e, wantErr)
	if !equal(n, want) {
		t.Errorf("%s: got %v", what, n)
	}
}

// P9.1: what may be, and what may not, each edge by itself.
func TestCheck(t *testing.T) {
	for _, x := range good() {
		errs(t, x.what, Check(x.n), api.OK)
	}
	for _, x := range bad() {
		errs(t, x.what, Check(x.n), api.ErrForm)
	}
	for _, x := range full() {
		errs(t, x.what, Check(x.n), api.ErrFull)
	}
}

// P9.1: what may not be is told ahead of what has too many bytes.
func TestFormIsToldAheadOfFull(t *testing.T) {
	for _, x := range full() {
		n := clone(x.n)
		n.Keys[len(n.Keys)-1] = n.Keys[0]
		errs(t, x.what, Check(n), api.ErrForm)
		n = clone(x.n)
		n.Keys[0] = ""
		errs(t, x.what, Check(n), api.ErrForm)
		n = clone(x.n)
		n.Leaf = !n.Leaf
		errs(t, x.what, Check(n), api.ErrForm)
		n = clone(x.n)
		if n.Leaf {
			n.Vals[len(n.Vals)-1] = strings.Repeat("v", 97)
		} else {
			n.Kids[len(n.Kids)-1] = api.Ptr{}
		}
		errs(t, x.what, Check(n), api.ErrForm)
		size, e := Size(n)
		errs(t, x.what, e, api.ErrForm)
		if size != 0 {
			t.Errorf("%s: size %d beside an error", x.what, size)
		}
	}
}

// P9.1: each size about the edge, a leaf's and another node's.
func TestCheckOfEachSize(t *testing.T) {
	for size := 17; size < 570; size++ {
		if size != 498 && size != 499 { // a further key and its value have three bytes
			checksSize(t, leafOfSize(size), size)
		}
	}
	for last := 1; last <= 32; last++ {
		checksSize(t, branchOfLast(last), 505+last)
	}
}

func checksSize(t *testing.T, n api.Node, size int) {
	t.Helper()
	want := api.OK
	if size > 512 {
		want = api.ErrFull
	}
	errs(t, fmt.Sprintf("Check of %d bytes", size), Check(n), want)
	got, e := Size(n)
	if got != size || e != api.OK {
		t.Errorf("%d bytes, error %d, not %d", got, e, size)
	}
	b, e := Put(n)
	errs(t, fmt.Sprintf("Put of %d bytes", size), e, want)
	if want == api.OK && !bytes.Equal(b, ofNode(n)) || want != api.OK && len(b) != 0 {
		t.Errorf("of %d bytes: %x", size, b)
	}
}

// P9.1: how many bytes there are ahead of the noughts, be they more than a sector's.
func TestSize(t *testing.T) {
	for _, x := range append(good(), full()...) {
		if size, e := Size(x.n); size != sizeOf(x.n) || e != api.OK {
			t.Errorf("%s: %d, error %d, not %d", x.what, size, e, sizeOf(x.n))
		}
	}
	for _, x := range bad() {
		size, e := Size(x.n)
		errs(t, x.what, e, api.ErrForm)
		if size != 0 {
			t.Errorf("%s: %d beside an error", x.what, size)
		}
	}
}

// P9.1: sizes, told by number.
func TestSizeOfExamples(t *testing.T) {
	for i, c := range []struct {
		n    api.Node
		want int
	}{
		{api.Node{Leaf: true}, 2},
		{leafOf("a"), 5},
		{api.Node{Leaf: true, Keys: []string{"a", "bc"}, Vals: []string{"", "xy"}}, 11},
		{mostKeys(), 512},
		{branchOf("a"), 92},
		{branchOf("a", "bcd"), 140},
		{leafOf(rising(300, 2)...), 1202},
	} {
		if size, e := Size(c.n); size != c.want || e != api.OK {
			t.Errorf("%d: %d, error %d, not %d", i, size, e, c.want)
		}
	}
}

// P9.1: the chapter's example of a leaf of nothing.
func TestPutOfNothing(t *testing.T) {
	b, e := Put(api.Node{Leaf: true})
	errs(t, "Put", e, api.OK)
	if !bytes.Equal(b, append([]byte{1}, make([]byte, 511)...)) {
		t.Errorf("%x", b)
	}
}

// P9.1: bytes of a leaf, and of another node, written out.
func TestPutOfExamples(t *testing.T) {
	sum := api.Hash{1, 2, 31: 9}
	for i, c := range []struct {
		n    api.Node
		want []byte
	}{
		{api.Node{Leaf: true, Keys: []string{"a", "bc"}, Vals: []string{"", "xy"}}, []byte{1, 2, 1, 'a', 0, 2, 'b', 'c', 2, 'x', 'y'}},
		{api.Node{Leaf: true, Keys: []string{"\x00", "\xff"}, Vals: []string{"\x00\x00", "\xc3"}}, []byte{1, 2, 1, 0, 2, 0, 0, 1, 255, 1, 0xc3}},
		{api.Node{Keys: []string{"m"}, Kids: []api.Ptr{{Addr: 2, Birth: 1}, {Addr: 0x0FED, Birth: 0x0102030405060708, Sum: sum}}},
			slices.Concat([]byte{2, 1, 1, 'm', 0, 0, 0, 2, 0, 0, 0, 0, 0, 0, 0, 1}, make([]byte, 32),
				[]byte{0, 0, 0x0F, 0xED, 1, 2, 3, 4, 5, 6, 7, 8}, sum[:])},
		{api.Node{Keys: []string{"b", "dd"}, Kids: []api.Ptr{{Addr: 9, Birth: 1}, {Addr: 8, Birth: 2}, {Addr: 7, Birth: 3}}},
			slices.Concat([]byte{2, 2, 1, 'b', 2, 'd', 'd'},
				[]byte{0, 0, 0, 9, 0, 0, 0, 0, 0, 0, 0, 1}, make([]byte, 32),
				[]byte{0, 0, 0, 8, 0, 0, 0, 0, 0, 0, 0, 2}, make([]byte, 32),
				[]byte{0, 0, 0, 7, 0, 0, 0, 0, 0, 0, 0, 3}, make([]byte, 32))},
	} {
		b, e := Put(c.n)
		errs(t, "Put", e, api.OK)
		if want := append(c.want, make([]byte, 512-len(c.want))...); !bytes.Equal(b, want) {
			t.Errorf("%d: %x, not %x", i, b, want)
		}
	}
}

// P9.1: what may be is put, as told plainly.
func TestPut(t *testing.T) {
	for _, x := range good() {
		b, e := Put(x.n)
		errs(t, x.what, e, api.OK)
		if !bytes.Equal(b, ofNode(x.n)) {
			t.Errorf("%s: %x", x.what, b)
		}
	}
}

// P9.1: Check's error, and nothing beside it.
func TestPutOfWhatMayNotBe(t *testing.T) {
	for _, x := range append(bad(), full()...) {
		b, e := Put(x.n)
		errs(t, x.what, e, Check(x.n))
		if e == api.OK || len(b) != 0 {
			t.Errorf("%s: error %d, %x", x.what, e, b)
		}
	}
}

// P9.1: any other count of bytes than a sector's, whatever they are.
func TestGetOfOtherCounts(t *testing.T) {
	whole := append(ofNode(leafOf("a")), make([]byte, 1000)...)
	gets(t, "nil", nil, api.Node{}, api.ErrArg)
	for _, size := range []int{0, 1, 2, 5, 16, 44, 255, 256, 510, 511, 513, 514, 1023, 1024, 1512} {
		gets(t, fmt.Sprint(size), whole[:size], api.Node{}, api.ErrArg)
		gets(t, fmt.Sprint(size), bytes.Repeat([]byte{9}, size), api.Node{}, api.ErrArg)
	}
	gets(t, "512", whole[:512], leafOf("a"), api.OK)
}

// sector is a sector of those bytes, and noughts.
func sector(parts ...[]byte) []byte {
	b := slices.Concat(parts...)
	return append(b, make([]byte, 512-len(b))...)
}

// kidBytes are a pointer's.
func kidBytes(addr uint32, birth, sum byte) []byte {
	b := make([]byte, 44)
	b[0], b[1], b[2], b[3] = byte(addr>>24), byte(addr>>16), byte(addr>>8), byte(addr)
	b[11], b[43] = birth, sum
	return b
}

// P9.1: bytes that no node is put as, each fault by itself.
func TestGetOfWhatMayNotBe(t *testing.T) {
	a, p := []byte{1, 'a'}, kidBytes(2, 1, 1)
	long, longVal := bytes.Repeat([]byte{'k'}, 33), bytes.Repeat([]byte{'v'}, 97)
	for what, b := range map[string][]byte{
		"noughts":                        sector(),
		"255s":                           bytes.Repeat([]byte{255}, 512),
		"kind 0":                         sector([]byte{0, 1}, a, []byte{0}),
		"kind 3":                         sector([]byte{3, 1}, a, []byte{0}),
		"kind 3 of kids":                 sector([]byte{3, 1}, a, p, p),
		"kind 255":                       sector([]byte{255, 0}),
		"kind 129":                       sector([]byte{129, 0}),
		"a leaf of more than it tells":   sector([]byte{1, 0}, a, []byte{0}),
		"a leaf of less than it tells":   sector([]byte{1, 2}, a, []byte{0}),
		"a leaf of 255":                  sector([]byte{1, 255}, a, []byte{0}),
		"a leaf of an empty key":         sector([]byte{1, 1}),
		"a leaf of a key too long":       sector([]byte{1, 1, 33}, long, []byte{0}),
		"a leaf of a value too long":     sector([]byte{1, 1}, a, []byte{97}, longVal),
		"a leaf of a key twice":          sector([]byte{1, 2}, a, []byte{0}, a, []byte{0}),
		"a leaf that falls":              sector([]byte{1, 2, 1, 'b', 0}, a, []byte{0}),
		"a leaf and a bit":               sector([]byte{1, 1}, a, []byte{0, 1}),
		"a leaf and a bit at the end":    sector([]byte{1, 1}, a, make([]byte, 507), []byte{128}),
		"nothing and a bit at the end":   sector([]byte{1, 0}, make([]byte, 509), []byte{1}),
		"another node of nothing":        sector([]byte{2, 0}),
		"another node of a kid alone":    sector([]byte{2, 0}, p),
		"another node of no kid":         sector([]byte{2, 1}, a),
		"another node of one kid":        sector([]byte{2, 1}, a, p),
		"another node of three kids":     sector([]byte{2, 1}, a, p, p, p),
		"another node of an empty key":   sector([]byte{2, 1, 0}, p, p),
		"another node of a key too long": sector([]byte{2, 1, 33}, long, p, p),
		"another node of a key twice":    sector([]byte{2, 2}, a, a, p, p, p),
		"another node that falls":        sector([]byte{2, 2, 1, 'b'}, a, p, p, p),
		"another node and a bit":         sector([]byte{2, 1}, a, p, p, []byte{1}),
		"a null kid":                     sector([]byte{2, 1}, a, p, make([]byte, 44)),
		"a null kid of a birth":          sector([]byte{2, 1}, a, kidBytes(0, 1, 0), p),
		"a kid at an uber":               sector([]byte{2, 1}, a, p, kidBytes(1, 1, 1)),
		"a kid behind all devices":       sector([]byte{2, 1}, a, p, kidBytes(4096, 1, 1)),
		"a kid far behind":               sector([]byte{2, 1}, a, kidBytes(1<<31, 1, 1), p),
		"a kid of no birth":              sector([]byte{2, 1}, a, p, kidBytes(2, 0, 1)),
		"more kids than there is room":   sector([]byte{2, 11, 1, 1, 1, 2, 1, 3, 1, 4, 1, 5, 1, 6, 1, 7, 1, 8, 1, 9, 1, 10, 1, 11}, bytes.Repeat(p, 11)),
		"keys alone":                     append([]byte{2, 255}, bytes.Repeat(a, 255)...),
	} {
		gets(t, what, b, api.Node{}, api.ErrForm)
	}
}

// P9.1: texts and pointers that would go on behind the sector.
func TestGetOfWhatHasNoRoom(t *testing.T) {
	whole := ofNode(leafOfSize(512))
	gets(t, "whole", whole, leafOfSize(512), api.OK)
	keyAt := 2 + 5*99 // the sixth key's size, its key, its value's size, its value
	if !bytes.Equal(whole[keyAt:keyAt+3], []byte{1, 'f', 12}) {
		t.Fatalf("%x", whole[keyAt:])
	}
	for size := range 256 {
		b := slices.Clone(whole)
		b[keyAt+2] = byte(size)
		if size != 12 {
			gets(t, fmt.Sprintf("a value of %d", size), b, api.Node{}, api.ErrForm)
		}
		b = slices.Clone(whole)
		b[keyAt] = byte(size)
		if size != 1 {
			gets(t, fmt.Sprintf("a key of %d", size), b, api.Node{}, api.ErrForm)
		}
	}
	for count := range 256 {
		b := slices.Clone(whole)
		b[1] = byte(count)
		if count != 6 {
			gets(t, fmt.Sprintf("%d keys", count), b, api.Node{}, api.ErrForm)
		}
	}
}

// P9.1, P9.3: what is put is got, all of it.
func TestWhatIsPutIsGot(t *testing.T) {
	for _, x := range good() {
		b, _ := Put(x.n)
		gets(t, x.what, b, x.n, api.OK)
		gets(t, x.what+", told plainly", ofNode(x.n), x.n, api.OK)
		if n, _ := Get(b); !Same(n, x.n) {
			t.Errorf("%s: not the same", x.what)
		}
	}
}

// isOf says whether bytes are those of a node: it may be, and they are it, told plainly.
func isOf(t *testing.T, b []byte, n api.Node) bool {
	t.Helper()
	return Check(n) == api.OK && bytes.Equal(ofNode(n), b)
}

// P9.1, P9.3: with a byte changed, wherever, to whatever, it is another node that is put as these bytes, or none.
func TestGetOfEachByteChanged(t *testing.T) {
	forms := 0
	for _, n := range []api.Node{{Leaf: true}, leafOf("a", "bc"), leafOfSize(512), leafOf("a\x00\x00\x00\x00"), branchOf("m"), branchOf("b", "d", "f")} {
		whole := ofNode(n)
		for place := range whole {
			for change := 1; change < 256; change++ {
				if place >= 100 && change&(change-1) != 0 {
					continue // there each bit by itself will do
				}
				whole[place] ^= byte(change)
				m, e := Get(whole)
				switch {
				case e == api.ErrForm && equal(m, api.Node{}):
					forms++
				case e != api.OK || !isOf(t, whole, m) || equal(m, n):
					t.Errorf("place %d, change %d: error %d, %v", place, change, e, m)
				}
				whole[place] ^= byte(change)
			}
		}
	}
	if forms == 0 {
		t.Error("nothing was refused")
	}
}

// P9.1, P9.3: nodes whose bytes are mixed by chance.
func TestGetByChance(t *testing.T) {
	c := rand.New(rand.NewSource(1))
	oks := 0
	for range 20000 {
		b := ofNode(anyNode(c))
		for range 1 + c.Intn(3) {
			from, to, size := c.Intn(512), c.Intn(512), c.Intn(50)
			copy(b[to:], b[from:min(512, from+size)])
		}
		n, e := Get(b)
		switch {
		case e == api.OK && isOf(t, b, n):
			oks++
		case e != api.ErrForm || !equal(n, api.Node{}):
			t.Fatalf("error %d, %v of %x", e, n, b)
		}
	}
	if oks == 0 {
		t.Error("all was refused")
	}
}

// P9.3: nodes that aren't the same have other bytes.
func TestBytesAreOfOneNodeAlone(t *testing.T) {
	of := map[string]api.Node{}
	for _, x := range good() {
		b, _ := Put(x.n)
		if other, met := of[string(b)]; met && !equal(other, x.n) {
			t.Errorf("%s: bytes of two", x.what)
		}
		of[string(b)] = x.n
	}
}

// P9.2: the chapter's example.
func TestFindOfTheExample(t *testing.T) {
	n := branchOf("b", "d")
	for _, c := range []struct {
		key   string
		place int
		there bool
	}{{"a", 0, false}, {"b", 1, true}, {"c", 1, false}, {"d", 2, true}, {"e", 2, false}, {"", 0, false}, {"b\x00", 1, false}, {"bb", 1, false}} {
		if place, there := Find(n, c.key); place != c.place || there != c.there {
			t.Errorf("%q: %d, %t", c.key, place, there)
		}
	}
}

// finds tells if a key is found where counting tells.
func finds(t *testing.T, n api.Node, key string) {
	t.Helper()
	want, there := 0, false
	for _, k := range n.Keys {
		if k < key || !n.Leaf && k == key {
			want++
		}
		there = there || k == key
	}
	if place, is := Find(n, key); place != want || is != there {
		t.Errorf("leaf %t, %.100q in %.200q: %d, %t, not %d, %t", n.Leaf, key, n.Keys, place, is, want, there)
	}
}

// P9.2: each key, what is just ahead of it and behind, in leaves and others, of all counts.
func TestFind(t *testing.T) {
	c := rand.New(rand.NewSource(3))
	nodes := append(good(), full()...)
	for count := range 20 {
		nodes = append(nodes, named{"", leafOf(rising(count, 2)...)}, named{"", branchOf(rising(count, 2)...)})
	}
	for _, x := range nodes {
		for _, key := range append([]string{"", "\x00", "m", "\xff", strings.Repeat("\xff", 40)}, x.n.Keys...) {
			finds(t, x.n, key)
			finds(t, x.n, key+"\x00")
			if key != "" {
				finds(t, x.n, key[:len(key)-1])
				finds(t, x.n, key[:len(key)-1]+string([]byte{key[len(key)-1] - 1}))
				finds(t, x.n, key[:len(key)-1]+string([]byte{key[len(key)-1] + 1}))
			}
			finds(t, x.n, anyBytes(c, 0, 33))
		}
	}
}

// P9.2: keys alone tell, and of none nothing is found.
func TestFindAsksKeysAlone(t *testing.T) {
	for _, isLeaf := range []bool{false, true} {
		for _, key := range []string{"", "a", "b", "c", "d", "e"} {
			finds(t, api.Node{Leaf: isLeaf}, key)
			finds(t, api.Node{Leaf: isLeaf, Keys: []string{}, Vals: []string{"x"}, Kids: kids(3)}, key)
			finds(t, api.Node{Leaf: isLeaf, Keys: []string{"b", "d"}}, key)
			finds(t, api.Node{Leaf: isLeaf, Keys: []string{"b", "d"}, Vals: []string{"x"}, Kids: kids(9)}, key)
			finds(t, api.Node{Leaf: isLeaf, Keys: []string{"", "b"}}, key)
		}
	}
}

// P1, of P9.2: keys that don't rise are no reason to panic.
func TestFindOfKeysThatDoNotRise(t *testing.T) {
	c := rand.New(rand.NewSource(4))
	for range 2000 {
		n := api.Node{Leaf: c.Intn(2) == 0}
		for range c.Intn(20) {
			n.Keys = append(n.Keys, anyBytes(c, 0, 2))
		}
		if place, _ := Find(n, anyBytes(c, 0, 2)); place < 0 || place > len(n.Keys) {
			t.Errorf("place %d of %d", place, len(n.Keys))
		}
	}
}

// others are nodes that differ from each other, in one field or in more.
func others() []api.Node {
	sum := kid(1)
	sum.Sum[31]++
	return []api.Node{
		{},
		{Leaf: true},
		{Keys: []string{"a"}},
		{Keys: []string{""}},
		{Keys: []string{"", ""}},
		{Keys: []string{"a", "b"}},
		{Keys: []string{"b", "a"}},
		{Keys: []string{"ab"}},
		{Vals: []string{"a"}},
		{Vals: []string{""}},
		{Vals: []string{"a", "b"}},
		{Vals: []string{"b", "a"}},
		{Keys: []string{"a"}, Vals: []string{"b"}},
		{Keys: []string{"b"}, Vals: []string{"a"}},
		{Leaf: true, Keys: []string{"a"}, Vals: []string{"b"}},
		{Leaf: true, Keys: []string{"a"}, Vals: []string{"c"}},
		{Kids: make([]api.Ptr, 1)},
		{Kids: make([]api.Ptr, 2)},
		{Kids: []api.Ptr{kid(1)}},
		{Kids: []api.Ptr{{Addr: kid(1).Addr + 1, Birth: kid(1).Birth, Sum: kid(1).Sum}}},
		{Kids: []api.Ptr{{Addr: kid(1).Addr, Birth: kid(1).Birth + 1, Sum: kid(1).Sum}}},
		{Kids: []api.Ptr{sum}},
		{Kids: []api.Ptr{kid(1), kid(2)}},
		{Kids: []api.Ptr{kid(2), kid(1)}},
		{Keys: []string{"a"}, Vals: []string{"b"}, Kids: kids(3)},
		{Leaf: true, Keys: []string{"a"}, Vals: []string{"b"}, Kids: kids(3)},
	}
}

// P9.2: nodes are the same as themselves, and as no other, whether they may be or not.
func TestSame(t *testing.T) {
	for i, a := range others() {
		for j, b := range others() {
			if Same(a, b) != (i == j) {
				t.Errorf("%d and %d: %t", i, j, Same(a, b))
			}
		}
	}
	for _, x := range slices.Concat(good(), bad(), full()) {
		if !Same(x.n, clone(x.n)) {
			t.Errorf("%s: not the same as itself", x.what)
		}
	}
}

// P9.2: of lists nil and empty are one.
func TestSameOfEmptyLists(t *testing.T) {
	for _, isLeaf := range []bool{false, true} {
		a := api.Node{Leaf: isLeaf}
		b := api.Node{Leaf: isLeaf, Keys: []string{}, Vals: []string{}, Kids: []api.Ptr{}}
		if !Same(a, b) || !Same(b, a) {
			t.Errorf("leaf %t: not the same", isLeaf)
		}
		a.Keys, b.Keys = []string{"a"}, []string{"a"}
		if !Same(a, b) || !Same(b, a) {
			t.Errorf("leaf %t, of a key: not the same", isLeaf)
		}
	}
}

// P9.1, P9.2: what is handed in isn't changed, its spare room neither.
func TestNodesAreLeftAlone(t *testing.T) {
	for _, x := range slices.Concat(good(), bad(), full()) {
		n, want := clone(x.n), clone(x.n)
		n.Keys = append(n.Keys, "spare")[:len(n.Keys)]
		n.Vals = append(n.Vals, "spare")[:len(n.Vals)]
		n.Kids = append(n.Kids, kid(77))[:len(n.Kids)]
		Check(n)
		Size(n)
		Put(n)
		Find(n, "k")
		Same(n, want)
		spare := n.Keys[:len(n.Keys)+1][len(n.Keys)] == "spare" && n.Vals[:len(n.Vals)+1][len(n.Vals)] == "spare" &&
			n.Kids[:len(n.Kids)+1][len(n.Kids)] == kid(77)
		if !equal(n, want) || !spare {
			t.Errorf("%s: changed", x.what)
		}
	}
}

// P9.1: bytes that are handed in aren't changed, nor kept.
func TestBytesAreLeftAlone(t *testing.T) {
	for _, x := range good() {
		whole := append(ofNode(x.n), 1, 2, 3)
		n, _ := Get(whole[:512])
		if !bytes.Equal(whole, append(ofNode(x.n), 1, 2, 3)) {
			t.Errorf("%s: changed", x.what)
		}
		clear(whole)
		if !equal(n, x.n) {
			t.Errorf("%s: the node changes with the bytes", x.what)
		}
	}
}

// P9.1: each answer is new memory, its spare room too.
func TestAnswersAreNewMemory(t *testing.T) {
	for _, x := range good() {
		b, _ := Put(x.n)
		c, _ := Put(x.n)
		clear(b[:cap(b)])
		if !bytes.Equal(c, ofNode(x.n)) {
			t.Errorf("%s: one answer of Put changes with another", x.what)
		}
		n, _ := Get(c)
		m, _ := Get(c)
		wipe(n.Keys)
		if !slices.Equal(n.Vals, m.Vals) {
			t.Errorf("%s: values change with keys", x.what)
		}
		wipe(n.Vals)
		clear(n.Kids[:cap(n.Kids)])
		if !equal(m, x.n) {
			t.Errorf("%s: one answer of Get changes with another", x.what)
		}
	}
}

// wipe has all of a list, its spare room too, be another text.
func wipe(l []string) {
	for i := range l[:cap(l)] {
		l[:cap(l)][i] = "wiped"
	}
}
