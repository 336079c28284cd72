package walk

import (
	"fmt"
	"math/rand"
	"slices"
	"strings"
	"testing"

	"banyan/api"
	"banyan/dir"
)

// sets has Sets answer those, or that error and nothing beside.
func (x *disk) sets(what string, root api.Ptr, want []api.Set, err api.Errno) {
	x.Helper()
	if l, e := Sets(x.p, root); !slices.Equal(l, want) || e != err {
		x.Errorf("%s: Sets: %v, error %d, not %v, error %d", what, l, e, want, err)
	}
}

// all has All answer that list, or that error and nothing beside.
func (x *disk) all(what string, root api.Ptr, want []api.Ptr, err api.Errno) {
	x.Helper()
	if l, e := All(x.p, root); !slices.Equal(l, want) || e != err {
		x.Errorf("%s: All: %d, error %d, not %d, error %d", what, addrs(l), e, addrs(want), err)
	}
}

// allPlainly has All answer what is told plainly, of a directory of just those datasets.
func (x *disk) allPlainly(what string, root api.Ptr, sets []api.Set) {
	x.Helper()
	l, err := x.below(root)
	for _, s := range sets {
		if more, e := x.below(s.Root); err == api.OK {
			l, err = append(l, more...), e
		}
	}
	if err != api.OK {
		l = nil
	}
	x.all(what, root, once(l), err)
}

// many are datasets, of roots, so many that a directory has a few nodes: each second one a snapshot of the one ahead.
func many(count int, root func(i int) api.Ptr) []api.Set {
	var l []api.Set
	for i := range count {
		s := api.Set{Name: fmt.Sprintf("set%03d%s", i, strings.Repeat("x", i%20)), Root: root(i)}
		if i%2 == 1 {
			s.From, s.Snap = l[i-1].Name, true
		}
		l = append(l, s)
	}
	return l
}

// P16.2: datasets of a directory, of one node and of many, with all their fields, rising in whatever order they were put.
func TestSets(t *testing.T) {
	x := made(t, 1024)
	r := rand.New(rand.NewSource(1))
	for _, count := range []int{1, 2, 7, 100} {
		l := many(count, func(i int) api.Ptr { return some(uint32(2 + i)) })
		x.sets(fmt.Sprint(count), x.dir(l...), l, api.OK)
		mixed := slices.Clone(l)
		r.Shuffle(count, func(i, j int) { mixed[i], mixed[j] = mixed[j], mixed[i] })
		x.sets(fmt.Sprint(count, " mixed"), x.dir(mixed...), l, api.OK)
	}
	family := []api.Set{{Name: "a"}, {Name: "b", From: "a", Snap: true, Root: some(4095)}, {Name: "c", From: "b"}, {Name: strings.Repeat("z", 32)}}
	x.sets("family", x.dir(family...), family, api.OK)
}

// P16.2: a key and a value that are no dataset's, at any place, and ones that are a dataset's, but not of these.
func TestSetsThatMayNotBe(t *testing.T) {
	x := made(t, 1024)
	good := many(30, func(i int) api.Ptr { return api.Ptr{} })
	for _, i := range []int{0, 1, 15, 29} {
		for _, v := range []string{"", "x", strings.Repeat("v", 96), "\x03" + strings.Repeat("\x00", 45), "\x01" + strings.Repeat("\x00", 44), "\x01" + strings.Repeat("\x00", 46), "\x02" + strings.Repeat("\x00", 45)} {
			pairs := x.pairsOf(good)
			pairs[i].V = v
			root := x.pairs(pairs...)
			x.sets("no dataset", root, nil, api.ErrForm)
			x.all("no dataset", root, nil, api.ErrForm)
			errs(t, "Keep", x.p.Keep(nil), api.OK)
		}
	}
	for i, l := range [][]api.Set{
		{{Name: "b", From: "a", Snap: true}},
		{{Name: "a", From: "b"}},
		{{Name: "a", From: "b"}, {Name: "b"}},
		{{Name: "a"}, {Name: "b", From: "a", Snap: true}, {Name: "c", From: "b", Snap: true}},
		{{Name: "a", From: "a"}},
		{{Name: "a", From: "a", Snap: true}},
	} {
		root := x.dir(l...)
		x.sets(fmt.Sprint("not all there are, ", i), root, nil, api.ErrForm)
		x.all(fmt.Sprint("not all there are, ", i), root, nil, api.ErrForm)
	}
	x.sets("a tree of others", x.pairs(api.KV{K: "key", V: "value"}), nil, api.ErrForm)
}

// pairsOf are datasets as keys and values.
func (x *disk) pairsOf(sets []api.Set) []api.KV {
	x.Helper()
	var l []api.KV
	for _, s := range sets {
		kv, e := dir.Put(s)
		errs(x.T, "dir.Put", e, api.OK)
		l = append(l, kv)
	}
	return l
}

// P16.2: the pool's error of a node that can't be read, each of a directory, ahead of a dataset that may not be, wherever it is.
func TestSetsThatCannotBeRead(t *testing.T) {
	x := made(t, 256)
	pairs := x.pairsOf(many(60, func(i int) api.Ptr { return api.Ptr{} }))
	for _, v := range []string{pairs[0].V, "none"} {
		pairs[0].V = v
		root := x.pairs(pairs...)
		nodes, e := Nodes(x.p, root)
		if e != api.OK || len(nodes) < 5 {
			t.Fatalf("%d nodes, error %d", len(nodes), e)
		}
		for _, at := range nodes {
			x.turn(at)
			x.sets("turned", root, nil, api.ErrSum)
			x.all("turned", root, nil, api.ErrSum)
			x.turn(at)
			delete(x.bad, at)
		}
	}
	for _, at := range []api.Ptr{x.beyond(), x.noNode(), x.turned(), some(1), some(4096)} {
		want := x.bad[at]
		if want == api.OK {
			want = api.ErrArg
		}
		x.sets("a root", at, nil, want)
		x.all("a root", at, nil, want)
	}
}

// P16.2: the tree's pointers, and then those of each dataset, in order, each where it is met first.
func TestAll(t *testing.T) {
	x := made(t, 256)
	a, b, c := x.leaf(), x.leaf(), x.leaf()
	ab, cb := x.branch(a, b), x.branch(c, b)
	for i, is := range []struct {
		roots []api.Ptr
		want  []api.Ptr
	}{
		{nil, nil},
		{[]api.Ptr{{}}, nil},
		{[]api.Ptr{a}, []api.Ptr{a}},
		{[]api.Ptr{b, a}, []api.Ptr{b, a}},
		{[]api.Ptr{a, {}, a, b}, []api.Ptr{a, b}},
		{[]api.Ptr{cb, ab}, []api.Ptr{cb, c, b, ab, a}},
		{[]api.Ptr{ab, cb}, []api.Ptr{ab, a, b, cb, c}},
		{[]api.Ptr{b, ab, ab, c, cb}, []api.Ptr{b, ab, a, c, cb}},
	} {
		var sets []api.Set
		for j, root := range is.roots {
			sets = append(sets, api.Set{Name: fmt.Sprint(j), Root: root})
		}
		root := x.dir(sets...)
		if root.Addr != 0 {
			is.want = append([]api.Ptr{root}, is.want...)
		}
		x.all(fmt.Sprint(i), root, is.want, api.OK)
	}
}

// P16.2: a dataset whose root is a node of the directory, or of another one, is met just once.
func TestAllOfWhatIsShared(t *testing.T) {
	x := made(t, 256)
	inner := x.dir(api.Set{Name: "a", Root: x.branch(x.leaf(), x.leaf())})
	root := x.dir(api.Set{Name: "b", Root: inner}, api.Set{Name: "c", Root: inner})
	x.all("of a directory", root, []api.Ptr{root, inner}, api.OK)
	first, second := x.write(leafOf(x.pairsOf([]api.Set{{Name: "a"}})...)), x.leaf()
	last := x.write(leafOf(x.pairsOf([]api.Set{{Name: "m", Root: second}, {Name: "n", Root: first}})...))
	root = x.write(api.Node{Keys: []string{"m"}, Kids: []api.Ptr{first, last}})
	x.sets("of its own node", root, []api.Set{{Name: "a"}, {Name: "m", Root: second}, {Name: "n", Root: first}}, api.OK)
	x.all("of its own node", root, []api.Ptr{root, first, last, second}, api.OK)
}

// leafOf is one of pairs that rise.
func leafOf(pairs ...api.KV) api.Node {
	n := api.Node{Leaf: true}
	for _, kv := range pairs {
		n.Keys, n.Vals = append(n.Keys, kv.K), append(n.Vals, kv.V)
	}
	return n
}

// P16.2: real trees, and snapshots and clones of them, in a directory of many nodes.
func TestAllOfTrees(t *testing.T) {
	x := made(t, 4096)
	tr, root := x.tree(0, 200)
	sets := many(60, func(i int) api.Ptr {
		at := root
		if i%3 > 0 {
			tr, root = x.save(x.put(tr, fmt.Sprintf("key%05d", i*31%200), fmt.Sprint(i)))
		}
		return at
	})
	at := x.dir(sets...)
	x.sets("trees", at, sets, api.OK)
	x.allPlainly("trees", at, sets)
	l, e := All(x.p, at)
	own, _ := Nodes(x.p, at)
	if e != api.OK || len(own) < 5 || !slices.Equal(l[:len(own)], own) {
		t.Errorf("error %d, %d of the directory", e, len(own))
	}
}

// P16.2: errors: of the directory's nodes, then of its datasets, then of their trees, in their order; of a tree that can't be read, whatever is behind it.
func TestAllErrors(t *testing.T) {
	x := made(t, 512)
	makers := [](func() api.Ptr){x.turned, x.noNode, x.beyond}
	for i, first := range makers {
		bad := x.branch(x.leaf(), first())
		want := x.bad[x.kids[bad][1]]
		root := x.dir(api.Set{Name: "a"}, api.Set{Name: "b", Root: x.leaf()}, api.Set{Name: "c", Root: bad})
		x.all(fmt.Sprint("one, ", i), root, nil, want)
		if l, e := Sets(x.p, root); len(l) != 3 || e != api.OK {
			t.Errorf("%v, error %d", l, e)
		}
		root = x.dir(api.Set{Name: "a", From: "a", Root: bad})
		x.all(fmt.Sprint("not all there are, and one, ", i), root, nil, api.ErrForm)
		for j, other := range makers {
			root := x.dir(api.Set{Name: "a", Root: bad}, api.Set{Name: "b", Root: other()})
			x.all(fmt.Sprint("two, ", i, j), root, nil, want)
			leaf := x.write(leafOf(api.KV{K: "a", V: "none"}))
			root = x.write(api.Node{Keys: []string{"m"}, Kids: []api.Ptr{leaf, bad}})
			x.all(fmt.Sprint("the directory, ", i, j), root, nil, want)
		}
	}
	root := x.dir(api.Set{Name: "a", Root: some(4095)})
	x.all("beyond the device", root, nil, api.ErrArg)
}

// P16.2: a node that no way of keys leads to isn't asked for datasets, but is a node of the tree: Nodes' error comes first.
func TestAllOfWhatNoKeyLeadsTo(t *testing.T) {
	x := made(t, 64)
	bad, good := x.turned(), x.write(leafOf(x.pairsOf([]api.Set{{Name: "c"}})...))
	below := x.write(api.Node{Keys: []string{"x", "y"}, Kids: []api.Ptr{good, good, bad}}) // none goes on from y on, ahead of m
	root := x.write(api.Node{Keys: []string{"m"}, Kids: []api.Ptr{below, good}})
	x.nodes("unled", root, nil, api.ErrSum)
	x.all("unled", root, nil, api.ErrSum)
	if _, e := Sets(x.p, root); e != api.OK && e != api.ErrSum { // layer 14 may read it, or not
		t.Errorf("Sets: error %d", e)
	}
}

// P16.2: directories by chance, beside what is told plainly.
func TestAllByChance(t *testing.T) {
	for seed := range 40 {
		r := rand.New(rand.NewSource(int64(seed)))
		x := made(t, 256)
		nodes := append(x.woven(r, 25, seed%4*2), api.Ptr{})
		for i := range 20 {
			sets := many(1+r.Intn(8), func(int) api.Ptr { return nodes[r.Intn(len(nodes))] })
			root := x.dir(sets...)
			x.sets(fmt.Sprintf("seed %d, %d", seed, i), root, sets, api.OK)
			x.allPlainly(fmt.Sprintf("seed %d, %d", seed, i), root, sets)
		}
	}
}

// P1: many datasets, all of trees that are as deep as they can be, are gone down in a time that ends.
func TestAllOfDeepTrees(t *testing.T) {
	x := made(t, 4096)
	at := x.leaf()
	roots := []api.Ptr{at}
	for range 3500 {
		at = x.branch(at, at)
		roots = append(roots, at)
	}
	sets := many(1000, func(i int) api.Ptr { return roots[len(roots)-1-i] })
	root := x.dir(sets...)
	own, e := Nodes(x.p, root)
	errs(t, "Nodes", e, api.OK)
	slices.Reverse(roots)
	x.all("deep", root, slices.Concat(own, roots), api.OK)
}

// P16.2: lists are new each time.
func TestSetsAreNew(t *testing.T) {
	x := made(t, 64)
	root := x.dir(api.Set{Name: "a", Root: x.leaf()}, api.Set{Name: "b"})
	sets, _ := Sets(x.p, root)
	all, _ := All(x.p, root)
	was, wasAll := slices.Clone(sets), slices.Clone(all)
	clear(sets[:cap(sets)])
	clear(all[:cap(all)])
	x.sets("again", root, was, api.OK)
	x.all("again", root, wasAll, api.OK)
}
