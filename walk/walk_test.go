package walk

import (
	"fmt"
	"math"
	"math/rand"
	"slices"
	"testing"

	"banyan/api"
	"banyan/pool"
	"banyan/tree"
)

// nulls lead nowhere, whatever else they have.
var nulls = []api.Ptr{{}, {Birth: 1}, {Sum: api.Hash{1}}, {Birth: math.MaxUint64, Sum: api.Hash{31: 255}}}

// P16.1 to P16.3: of no pool: ErrNil, whatever else is wrong.
func TestNoPool(t *testing.T) {
	for _, root := range append([]api.Ptr{some(2), some(1), some(math.MaxUint32)}, nulls...) {
		l, e := Nodes(nil, root)
		if l != nil || e != api.ErrNil {
			t.Errorf("Nodes: %v, error %d", l, e)
		}
		l, e = All(nil, root)
		if l != nil || e != api.ErrNil {
			t.Errorf("All: %v, error %d", l, e)
		}
		if l, e := Sets(nil, root); l != nil || e != api.ErrNil {
			t.Errorf("Sets: %v, error %d", l, e)
		}
		if c, e := Count(nil, []api.Ptr{root}); c != nil || e != api.ErrNil {
			t.Errorf("Count: %v, error %d", c, e)
		}
		if n, e := Alike(nil, root, root); n != 0 || e != api.ErrNil {
			t.Errorf("Alike: %d, error %d", n, e)
		}
	}
	if c, e := Count(nil, nil); c != nil || e != api.ErrNil {
		t.Errorf("Count of none: %v, error %d", c, e)
	}
}

// P16.1 to P16.3: of a null root there is none, and nothing is read, so that the device may be down.
func TestNullRoots(t *testing.T) {
	x := made(t, 16)
	for _, down := range []bool{false, true} {
		if down {
			x.d.Limit(0)
			errs(t, "Flush", x.d.Flush(), api.ErrDown)
		}
		for _, root := range nulls {
			x.nodes("null", root, nil, api.OK)
			x.counts("null", []api.Ptr{root, root}, nil, api.OK)
			x.sets("null", root, nil, api.OK)
			x.all("null", root, nil, api.OK)
			for _, other := range nulls {
				x.alike("null", root, other, 0)
			}
		}
		x.counts("none", nil, nil, api.OK)
		x.counts("none", []api.Ptr{}, nil, api.OK)
	}
}

// P16.1: a leaf; a node ahead of its kids, kid by kid; what is met again, in one node too, just where it is met first.
func TestNodes(t *testing.T) {
	x := made(t, 256)
	a, b, c, d, e := x.leaf(), x.leaf(), x.leaf(), x.leaf(), x.leaf()
	ba, cb, aa := x.branch(b, a), x.branch(c, b), x.branch(a, a)
	deep := x.branch(x.branch(ba, cb), d)
	for i, is := range []struct {
		root api.Ptr
		want []api.Ptr
	}{
		{a, []api.Ptr{a}},
		{ba, []api.Ptr{ba, b, a}},
		{aa, []api.Ptr{aa, a}},
		{x.branch(a, b, a, b, c), []api.Ptr{{}, a, b, c}},
		{x.branch(d, ba, cb, a, e), []api.Ptr{{}, d, ba, b, a, cb, c, e}},
		{x.branch(a, ba), []api.Ptr{{}, a, ba, b}},
		{x.branch(ba, ba, aa, ba), []api.Ptr{{}, ba, b, a, aa}},
		{deep, []api.Ptr{deep, x.kids[deep][0], ba, b, a, cb, c, d}},
		{x.branch(cb, deep, e), []api.Ptr{{}, cb, c, b, deep, x.kids[deep][0], ba, a, d, e}},
		{x.branch(x.kids[deep][0], deep), []api.Ptr{{}, x.kids[deep][0], ba, b, a, cb, c, deep, d}},
	} {
		is.want[0] = is.root
		x.nodes(fmt.Sprint(i), is.root, is.want, api.OK)
	}
}

// P16.1: a leaf of nothing is a node, too; its values lead nowhere, whatever they have.
func TestNodesOfLeaves(t *testing.T) {
	x := made(t, 16)
	empty := x.write(api.Node{Leaf: true})
	x.nodes("a leaf of nothing", empty, []api.Ptr{empty}, api.OK)
	root := x.dir(api.Set{Name: "a", Root: empty})
	x.nodes("a leaf of datasets", root, []api.Ptr{root}, api.OK)
	x.counts("a leaf of datasets", []api.Ptr{root}, map[api.Ptr]int{root: 1}, api.OK)
}

// P16.1: two pointers of one sector are two, if they differ: of what lies there now one can be read.
func TestNodesOfOneSector(t *testing.T) {
	x := made(t, 16)
	first := x.leaf()
	errs(t, "Keep", x.p.Keep(nil), api.OK)
	second := x.leaf()
	if first.Addr != second.Addr || first == second {
		t.Fatal("not of one sector")
	}
	x.bad[first] = api.ErrSum
	x.nodesPlainly("overwritten", first)
	x.nodesPlainly("what lies there", second)
	x.nodesPlainly("both", x.branch(second, first))
	born := second
	born.Birth = 2
	if _, e := Nodes(x.p, born); e != api.ErrForm {
		t.Errorf("of another birth: error %d", e)
	}
}

// P16.1: the pool's error of a root by itself, and as a kid.
func TestNodesThatCannotBeRead(t *testing.T) {
	x := made(t, 64)
	for what, at := range map[string]api.Ptr{"turned": x.turned(), "no node": x.noNode(), "beyond": x.beyond()} {
		x.nodes(what, at, nil, x.bad[at])
		x.counts(what, []api.Ptr{at}, nil, x.bad[at])
		for i, root := range []api.Ptr{x.branch(at, x.leaf()), x.branch(x.leaf(), at), x.branch(x.leaf(), x.branch(x.leaf(), at))} {
			x.nodes(fmt.Sprint(what, i), root, nil, x.bad[at])
			x.counts(fmt.Sprint(what, i), []api.Ptr{root}, nil, x.bad[at])
		}
	}
	for _, at := range []api.Ptr{some(1), {Addr: 2, Sum: api.Hash{1}}, some(64), some(4096), some(math.MaxUint32)} {
		x.nodes("may not be", at, nil, api.ErrArg)
		x.counts("may not be", []api.Ptr{at}, nil, api.ErrArg)
	}
	x.nodes("never written", some(60), nil, api.ErrSum)
}

// P16.1: of more than one node that can't be read, the first in order tells, whatever the others' errors are.
func TestFirstErrors(t *testing.T) {
	x := made(t, 512)
	for _, one := range [](func() api.Ptr){x.turned, x.noNode, x.beyond} {
		for _, other := range [](func() api.Ptr){x.turned, x.noNode, x.beyond} {
			first, last := one(), other()
			for i, root := range []api.Ptr{
				x.branch(first, last),
				x.branch(x.leaf(), first, x.leaf(), last),
				x.branch(x.branch(x.leaf(), first), last),
				x.branch(first, x.branch(last, x.leaf())),
				x.branch(x.branch(x.leaf(), x.branch(x.leaf(), first)), x.branch(last, x.leaf())),
			} {
				x.nodes(fmt.Sprint("two errors, ", i), root, nil, x.bad[first])
				x.counts(fmt.Sprint("two errors, ", i), []api.Ptr{root, last}, nil, x.bad[first])
			}
			x.counts("two roots", []api.Ptr{x.leaf(), {}, x.branch(x.leaf(), first), last}, nil, x.bad[first])
			x.counts("two roots", []api.Ptr{first, last}, nil, x.bad[first])
		}
	}
}

// P16.1: of a device that is down: ErrDown; ErrArg is told ahead of it.
func TestDown(t *testing.T) {
	x := made(t, 16)
	root := x.branch(x.leaf(), x.leaf())
	x.d.Limit(0)
	errs(t, "Flush", x.d.Flush(), api.ErrDown)
	x.nodes("down", root, nil, api.ErrDown)
	x.counts("down", []api.Ptr{{}, root}, nil, api.ErrDown)
	x.sets("down", root, nil, api.ErrDown)
	x.all("down", root, nil, api.ErrDown)
	if n, e := Alike(x.p, api.Ptr{}, root); n != 0 || e != api.ErrDown {
		t.Errorf("Alike: %d, error %d", n, e)
	}
	x.nodes("down", some(16), nil, api.ErrArg)
}

// P16.1, P1: a pool that New didn't make has no sectors.
func TestPoolOfNothing(t *testing.T) {
	var p pool.Pool
	if l, e := Nodes(&p, some(2)); l != nil || e != api.ErrArg {
		t.Errorf("Nodes: %v, error %d", l, e)
	}
	if l, e := All(&p, api.Ptr{}); l != nil || e != api.OK {
		t.Errorf("All: %v, error %d", l, e)
	}
}

// P16.1: a root is counted as often as it is told, a kid as often as nodes lead to it; each node but once.
func TestCount(t *testing.T) {
	x := made(t, 256)
	a, b, c := x.leaf(), x.leaf(), x.leaf()
	ab, aa := x.branch(a, b), x.branch(a, a)
	top := x.branch(ab, c, ab)
	for i, is := range []struct {
		roots []api.Ptr
		want  map[api.Ptr]int
	}{
		{[]api.Ptr{a}, map[api.Ptr]int{a: 1}},
		{[]api.Ptr{a, a, a}, map[api.Ptr]int{a: 3}},
		{[]api.Ptr{ab}, map[api.Ptr]int{ab: 1, a: 1, b: 1}},
		{[]api.Ptr{ab, ab}, map[api.Ptr]int{ab: 2, a: 1, b: 1}},
		{[]api.Ptr{aa}, map[api.Ptr]int{aa: 1, a: 2}},
		{[]api.Ptr{aa, aa, a}, map[api.Ptr]int{aa: 2, a: 3}},
		{[]api.Ptr{{}, ab, {Birth: 7}, aa, {}}, map[api.Ptr]int{ab: 1, aa: 1, a: 3, b: 1}},
		{[]api.Ptr{top}, map[api.Ptr]int{top: 1, ab: 2, c: 1, a: 1, b: 1}},
		{[]api.Ptr{ab, top}, map[api.Ptr]int{top: 1, ab: 3, c: 1, a: 1, b: 1}},
		{[]api.Ptr{top, ab}, map[api.Ptr]int{top: 1, ab: 3, c: 1, a: 1, b: 1}},
		{[]api.Ptr{c, top, b, top}, map[api.Ptr]int{top: 2, ab: 2, c: 2, a: 1, b: 2}},
	} {
		x.counts(fmt.Sprint(i), is.roots, is.want, api.OK)
	}
}

// P16.1: each call's counts are its own.
func TestCountsAreNew(t *testing.T) {
	x := made(t, 16)
	a := x.leaf()
	one, _ := Count(x.p, []api.Ptr{a})
	other, _ := Count(x.p, []api.Ptr{a})
	one.Add(a)
	if one.Of(a) != 2 || other.Of(a) != 1 {
		t.Errorf("%d, %d", one.Of(a), other.Of(a))
	}
}

// P16.3: each once, rising, that of a null pointer, too.
func TestAddrs(t *testing.T) {
	for i, is := range []struct{ addrs, want []uint32 }{
		{nil, nil},
		{[]uint32{5}, []uint32{5}},
		{[]uint32{5, 5, 5}, []uint32{5}},
		{[]uint32{9, 3, 9, 2, 3}, []uint32{2, 3, 9}},
		{[]uint32{math.MaxUint32, 1 << 31, 0, 1, math.MaxInt32, 0}, []uint32{0, 1, math.MaxInt32, 1 << 31, math.MaxUint32}},
		{[]uint32{4095, 256, 255, 4096, 16}, []uint32{16, 255, 256, 4095, 4096}},
	} {
		l := make([]api.Ptr, 0, 40)
		for j, addr := range is.addrs {
			l = append(l, api.Ptr{Addr: addr, Birth: uint64(j), Sum: api.Hash{byte(j)}})
		}
		was := slices.Clone(l[:40])
		if got := Addrs(l); !slices.Equal(got, is.want) {
			t.Errorf("%d: %d, not %d", i, got, is.want)
		}
		if !slices.Equal(l[:40], was) {
			t.Errorf("%d: the list was changed", i)
		}
	}
	if l := Addrs([]api.Ptr{}); len(l) != 0 {
		t.Errorf("%d", l)
	}
}

// P16.3: by chance, beside all numbers asked one by one.
func TestAddrsByChance(t *testing.T) {
	r := rand.New(rand.NewSource(1))
	for range 200 {
		l := make([]api.Ptr, r.Intn(200))
		for i := range l {
			l[i].Addr = uint32(r.Intn(100))
		}
		var want []uint32
		for addr := range uint32(100) {
			if slices.Contains(addrs(l), addr) {
				want = append(want, addr)
			}
		}
		if got := Addrs(l); !slices.Equal(got, want) {
			t.Fatalf("%d, not %d", got, want)
		}
	}
}

// P16.3: how many pointers both have, each once.
func TestAlike(t *testing.T) {
	x := made(t, 64)
	a, b, c, d := x.leaf(), x.leaf(), x.leaf(), x.leaf()
	ab, cd, aa, ba := x.branch(a, b), x.branch(c, d), x.branch(a, a), x.branch(b, a)
	top := x.branch(ab, cd)
	for i, is := range []struct {
		a, b api.Ptr
		want int
	}{
		{a, a, 1}, {a, b, 0}, {a, ab, 1}, {ab, ab, 3}, {ab, cd, 0}, {ab, aa, 1}, {aa, aa, 2}, {ab, ba, 2},
		{top, ab, 3}, {top, ba, 2}, {top, top, 7}, {top, d, 1}, {top, api.Ptr{}, 0}, {x.branch(top, top), top, 7}, {x.branch(aa, aa, aa), aa, 2},
	} {
		x.alike(fmt.Sprint(i), is.a, is.b, is.want)
	}
}

// P16.3: the error of a is told ahead of that of b.
func TestAlikeErrors(t *testing.T) {
	x := made(t, 64)
	good := x.branch(x.leaf(), x.leaf())
	makers := [](func() api.Ptr){x.turned, x.noNode, x.beyond}
	for _, first := range makers {
		a := x.branch(x.leaf(), first())
		for _, pair := range [][2]api.Ptr{{a, good}, {good, a}, {a, a}, {a, {}}, {{}, a}} {
			if n, e := Alike(x.p, pair[0], pair[1]); n != 0 || e != x.bad[x.kids[a][1]] {
				t.Errorf("%d, error %d", n, e)
			}
		}
		for _, other := range makers {
			b := other()
			if n, e := Alike(x.p, a, b); n != 0 || e != x.bad[x.kids[a][1]] {
				t.Errorf("both: %d, error %d", n, e)
			}
			if n, e := Alike(x.p, b, a); n != 0 || e != x.bad[b] {
				t.Errorf("both: %d, error %d", n, e)
			}
		}
	}
}

// P16.3, P16.4: the chapter's example: of a tree, and it with one value more, all but the way down is alike; each node that just one has is counted by what leads to it there, each other by both that lead to it.
func TestExample(t *testing.T) {
	for _, count := range []int{1, 5, 30, 300, 1200} {
		x := made(t, 4096)
		a, ra := x.tree(0, count)
		b := x.put(a, "key00000x", "more")
		fresh := b.Fresh()
		_, rb := x.save(b)
		la, _ := Nodes(x.p, ra)
		lb, _ := Nodes(x.p, rb)
		x.alike("one more", ra, rb, len(lb)-fresh)
		x.nodesPlainly("a", ra)
		x.nodesPlainly("b", rb)
		x.countsPlainly("both", ra, rb)
		if got := len(Addrs(slices.Concat(la, lb))); got != len(la)+fresh {
			t.Errorf("%d keys: %d sectors, not %d", count, got, len(la)+fresh)
		}
		if got := Addrs(slices.Concat(la, lb)); !slices.Equal(got, x.p.Taken()) {
			t.Errorf("%d keys: sectors %d, not %d", count, got, x.p.Taken())
		}
	}
}

// P16.4: what isn't met is free: when just what is met is kept, all of it stays, whatever is written then.
func TestWhatIsNotMetIsFree(t *testing.T) {
	x := made(t, 128)
	tr, root := x.tree(0, 60)
	keys, e := tr.Scan("", "")
	errs(t, "Scan", e, api.OK)
	for i := range 40 {
		l, e := Nodes(x.p, root)
		errs(t, "Nodes", e, api.OK)
		errs(t, "Keep", x.p.Keep(Addrs(l)), api.OK)
		if x.p.Left() != 128-2-len(l) {
			t.Fatalf("%d left beside %d nodes", x.p.Left(), len(l))
		}
		for x.p.Left() > 10 { // all that is free is written over
			x.leaf()
		}
		at := i * 7 % len(keys)
		keys[at].V = fmt.Sprint(i)
		tr, root = x.save(x.put(tr, keys[at].K, keys[at].V))
		if again, _ := tree.Open(x.p, root); again != nil {
			if got, e := again.Scan("", ""); !slices.Equal(got, keys) || e != api.OK {
				t.Fatalf("%d: error %d, and not what was put", i, e)
			}
		}
	}
}

// woven writes nodes by chance that lead to those ahead of them, some of which can't be read.
func (x *disk) woven(r *rand.Rand, count, bad int) []api.Ptr {
	nodes := []api.Ptr{x.leaf(), x.leaf()}
	for range count {
		if r.Intn(100) < bad {
			nodes = append(nodes, [](func() api.Ptr){x.turned, x.noNode, x.beyond}[r.Intn(3)]())
			continue
		}
		if r.Intn(3) == 0 {
			nodes = append(nodes, x.leaf())
			continue
		}
		kids := make([]api.Ptr, 2+r.Intn(3))
		for i := range kids {
			kids[i] = nodes[len(nodes)-1-r.Intn(min(len(nodes), 8))]
		}
		nodes = append(nodes, x.branch(kids...))
	}
	return nodes
}

// P16.1, P16.3: trees by chance, beside what is told plainly; nothing of the pool or the device is changed by it.
func TestByChance(t *testing.T) {
	for seed := range 60 {
		r := rand.New(rand.NewSource(int64(seed)))
		x := made(t, 128)
		nodes := append(x.woven(r, 25, seed%4*3), api.Ptr{}, api.Ptr{Birth: 3})
		taken, waits := x.p.Taken(), x.d.Waits()
		for i, root := range nodes {
			what := fmt.Sprintf("seed %d, %d", seed, i)
			x.nodesPlainly(what, root)
			other := nodes[r.Intn(len(nodes))]
			x.alikePlainly(what, root, other)
			var roots []api.Ptr
			for range r.Intn(6) {
				roots = append(roots, nodes[r.Intn(len(nodes))])
			}
			x.countsPlainly(what, roots...)
		}
		if !slices.Equal(x.p.Taken(), taken) || x.d.Waits() != waits {
			t.Fatalf("seed %d: the pool was changed", seed)
		}
	}
}

// alikePlainly has Alike answer what is told plainly.
func (x *disk) alikePlainly(what string, a, b api.Ptr) {
	x.Helper()
	la, err := x.below(a)
	lb, other := x.below(b)
	if err == api.OK {
		err = other
	}
	want := 0
	for _, at := range once(la) {
		if err == api.OK && slices.Contains(lb, at) {
			want++
		}
	}
	if n, e := Alike(x.p, a, b); n != want || e != err {
		x.Errorf("%s: Alike: %d, error %d, not %d, error %d", what, n, e, want, err)
	}
}

// P1: a tree as deep as a device lets it be, each of whose nodes is led to twice, so that ways without end lead to its leaf, is gone down in a time that ends; so are many of its trees.
func TestDeep(t *testing.T) {
	x := made(t, 4096)
	at := x.leaf()
	want := []api.Ptr{at}
	count := map[api.Ptr]int{at: 3}
	roots := []api.Ptr{at}
	for range 4093 {
		at = x.branch(at, at)
		want = append(want, at)
		count[at] = 3
		roots = append(roots, at)
	}
	count[at] = 1
	slices.Reverse(want)
	x.nodes("deep", at, want, api.OK)
	x.alike("deep", at, want[1], len(want)-1)
	x.counts("deep", roots, count, api.OK)
	slices.Reverse(roots)
	x.counts("deep", roots, count, api.OK)
	if x.p.Left() != 0 {
		t.Errorf("%d left", x.p.Left())
	}
}

// P16.1: lists are new each time, and what was handed in isn't changed.
func TestListsAreNew(t *testing.T) {
	x := made(t, 16)
	root := x.branch(x.leaf(), x.leaf())
	l, _ := Nodes(x.p, root)
	was := slices.Clone(l)
	clear(l[:cap(l)])
	x.nodes("again", root, was, api.OK)
	roots := append(make([]api.Ptr, 0, 8), root, api.Ptr{}, root)
	kept := slices.Clone(roots[:8])
	_, e := Count(x.p, roots)
	if e != api.OK || !slices.Equal(roots[:8], kept) {
		t.Errorf("error %d, roots %v", e, roots)
	}
}

// P16.1: trees are read as they are by then: of one that was turned, and turned back.
func TestReadEachTime(t *testing.T) {
	x := made(t, 16)
	a := x.leaf()
	root := x.branch(x.leaf(), a)
	x.nodesPlainly("ahead", root)
	x.turn(a)
	x.nodes("turned", root, nil, api.ErrSum)
	x.turn(a)
	delete(x.bad, a)
	x.nodesPlainly("turned back", root)
}

// P16.1: what waits is read, what a crash lost isn't.
func TestCrash(t *testing.T) {
	x := made(t, 16)
	a := x.branch(x.leaf(), x.leaf())
	errs(t, "Flush", x.d.Flush(), api.OK)
	b := x.branch(a, x.leaf())
	x.nodesPlainly("waiting", b)
	x.d.Crash(0, -1)
	x.nodes("lost", b, nil, api.ErrSum)
	x.nodesPlainly("flushed", a)
}
