package tree

import (
	"fmt"
	"maps"
	"math/rand"
	"reflect"
	"slices"
	"strings"
	"testing"

	"banyan/api"
	"banyan/dev"
	"banyan/node"
	"banyan/pool"
	"banyan/seal"
)

// P14.3: Save writes just as many nodes as Fresh tells, kids ahead of their node, and flushes nothing.
func TestSaveWrites(t *testing.T) {
	for _, count := range []int{1, 2, 5, 30, 300, 1500} {
		x, p, d := made(t, 4096)
		has := many(count, 5)
		x = putAll(t, x, has)
		_, root := saved(t, x, p)
		if d.Waits() != x.Fresh() || root.Birth != 1 {
			t.Errorf("%d keys: %d wait, not %d; of birth %d", count, d.Waits(), x.Fresh(), root.Birth)
		}
		l := looked(t, p, root)
		if len(l.nodes) != x.Fresh() || !maps.Equal(l.has, has) {
			t.Errorf("%d keys: %d nodes, not %d; %d keys", count, len(l.nodes), x.Fresh(), len(l.has))
		}
		l.depth(t)
		for _, at := range l.nodes {
			n, _ := p.Read(at)
			for _, kid := range n.Kids {
				if kid.Addr >= at.Addr { // of an empty pool sectors are taken rising
					t.Errorf("%d keys: the kid at %d was written behind its node, at %d", count, kid.Addr, at.Addr)
				}
			}
		}
		errs(t, "Flush", d.Flush(), api.OK)
		d.Crash(0, -1)
		is(t, "flushed", opened(t, p, root), has)
	}
}

// P14.3: what is saved has the pool's birth at that time; what was saved ahead isn't written again.
func TestSaveOfABirth(t *testing.T) {
	x, p, _ := made(t, 256)
	has := many(100, 3)
	s, root := saved(t, putAll(t, x, has), p)
	errs(t, "Begin", p.Begin(2), api.OK)
	ahead := looked(t, p, root).nodes
	_, next := saved(t, put(t, s, "0505", "v"), p)
	births := map[uint64]int{}
	for _, at := range looked(t, p, next).nodes {
		births[at.Birth]++
		if at.Birth == 1 && !slices.Contains(ahead, at) {
			t.Errorf("%v wasn't there ahead", at)
		}
	}
	if births[2] == 0 || births[1] == 0 || len(births) != 2 {
		t.Errorf("nodes of births: %v", births)
	}
}

// P14.3: the tree that was saved stays, and is saved again as it was; so is one that shares nodes with it.
func TestSaveAgain(t *testing.T) {
	x, p, _ := made(t, 1024)
	has := many(150, 3)
	x = putAll(t, x, has)
	y := put(t, x, "zz", "v")
	more := maps.Clone(has)
	more["zz"] = "v"
	fresh := y.Fresh()
	for range 3 {
		_, root := saved(t, x, p)
		is(t, "saved", opened(t, p, root), has)
		if y.Fresh() != fresh {
			t.Errorf("Fresh of the other one is %d, not %d", y.Fresh(), fresh)
		}
		_, root = saved(t, y, p)
		is(t, "the other one saved", opened(t, p, root), more)
	}
	s, root := saved(t, x, p)
	for range 3 { // of one that is saved nothing is written, and its root is that one
		next, at := saved(t, s, p)
		if at != root {
			t.Errorf("saved at %v, not %v", at, root)
		}
		is(t, "saved again", next, has)
	}
}

// refuses has Save answer an error, and nothing beside.
func refuses(t *testing.T, what string, x *Tree, err api.Errno) {
	t.Helper()
	fresh := x.Fresh()
	if s, root, e := x.Save(); s != nil || root != (api.Ptr{}) || e != err {
		t.Errorf("%s: Save: %v, %v, error %d, not %d", what, s != nil, root, e, err)
	}
	if x.Fresh() != fresh {
		t.Errorf("%s: Fresh is %d, not %d", what, x.Fresh(), fresh)
	}
}

// P14.3: a device that gets down at any of the nodes: the pool's error; the tree stays, and may be saved again.
func TestSaveOfADeviceThatGetsDown(t *testing.T) {
	x, p, d := made(t, 256)
	has := many(60, 3)
	x = putAll(t, x, has)
	for limit := range x.Fresh() {
		what := fmt.Sprintf("behind %d writes", limit)
		d.Limit(limit)
		refuses(t, what, x, api.ErrDown)
		refuses(t, what+", down", x, api.ErrDown)
		is(t, what, x, has)
		d.Crash(0, -1)
		errs(t, "Keep", p.Keep(nil), api.OK)
		_, root := saved(t, x, p)
		is(t, what+", saved", opened(t, p, root), has)
		errs(t, "Keep", p.Keep(nil), api.OK)
	}
	d.Limit(x.Fresh())
	_, root := saved(t, x, p)
	is(t, "just as many writes", opened(t, p, root), has)
}

// P14.3: a pool with too little room for any of the nodes.
func TestSaveOfAFullPool(t *testing.T) {
	x, p, _ := made(t, 64)
	has := many(60, 3)
	x = putAll(t, x, has)
	for room := range x.Fresh() {
		var taken []uint32
		for addr := 2; addr < 64-room; addr++ {
			taken = append(taken, uint32(addr))
		}
		errs(t, "Keep", p.Keep(taken), api.OK)
		refuses(t, fmt.Sprintf("room for %d", room), x, api.ErrFull)
		is(t, fmt.Sprintf("room for %d", room), x, has)
	}
	errs(t, "Keep", p.Keep(nil), api.OK)
	_, root := saved(t, x, p)
	is(t, "with room", opened(t, p, root), has)
}

// P14.3: a pool without a birth writes no node.
func TestSaveOfNoBirth(t *testing.T) {
	d, _ := dev.New(16)
	p, _ := pool.New(d, seal.Derive(nil))
	x, e := New(p)
	errs(t, "New", e, api.OK)
	saved(t, x, p)
	x = put(t, x, "k", "v")
	refuses(t, "no birth", x, api.ErrArg)
	if p.Left() != 14 {
		t.Errorf("%d left", p.Left())
	}
	errs(t, "Begin", p.Begin(7), api.OK)
	_, root := saved(t, x, p)
	is(t, "a birth", opened(t, p, root), map[string]string{"k": "v"})
}

// P14.3: Fresh of one that is empty, has a key, and was saved.
func TestFresh(t *testing.T) {
	x, p, _ := made(t, 64)
	y := put(t, x, "k", "v")
	s, root := saved(t, y, p)
	for i, c := range []struct {
		x     *Tree
		fresh int
	}{
		{x, 0}, {y, 1}, {s, 0}, {opened(t, p, root), 0}, {put(t, s, "l", ""), 1}, {put(t, y, "l", ""), 1}, {without(t, s, "k"), 0}, {without(t, y, "k"), 0},
	} {
		if f := c.x.Fresh(); f != c.fresh {
			t.Errorf("tree %d: Fresh %d, not %d", i, f, c.fresh)
		}
	}
}

// P14.3: Fresh rises by few, and no tree gets deep, whatever is put and deleted, in orders that would have a tree grow to one side; each with keys that all have much room, and with those of all lengths.
func TestFreshRisesByFew(t *testing.T) {
	long := func(i int) string { return fmt.Sprintf("%08d", i) + strings.Repeat("x", 24) }
	mixed := func(i int) string { return fmt.Sprintf("%08d", i) + strings.Repeat("x", i*7%25) }
	for _, name := range []func(int) string{long, mixed} {
		for _, step := range []int{1, -1} {
			x, p, _ := made(t, 4096)
			has := map[string]string{}
			for i := range 6000 {
				k := name(50000000 + step*i)
				x, has[k] = put(t, x, k, strings.Repeat("v", 96)), strings.Repeat("v", 96)
				if i >= 40 && i%100 != 0 { // but a few at the end that all is deleted from stay
					k := name(50000000 + step*(i-40))
					x = without(t, x, k)
					delete(has, k)
				}
				if i%1000 == 999 {
					s, root := saved(t, x, p)
					if deep := looked(t, p, root).depth(t); deep > 6 {
						t.Errorf("%d keys are %d deep", len(has), deep)
					}
					errs(t, "Keep", p.Keep(nil), api.OK)
					is(t, "saved", s, has)
				}
			}
		}
	}
}

// P14.4: of a tree that was saved, and it with one value more, or less, all but a few nodes are one another's.
func TestTreesShareTheirNodes(t *testing.T) {
	x, p, _ := made(t, 4096)
	has := many(2000, 5)
	s, root := saved(t, putAll(t, x, has), p)
	l := looked(t, p, root)
	deep := l.depth(t)
	for i := 0; i < 2000; i += 199 {
		k := fmt.Sprintf("%05d", i)
		for _, c := range []struct {
			y       *Tree
			written int // at most, by a level
		}{
			{put(t, s, k+"x", "v"), 2}, {put(t, s, k, strings.Repeat("w", 96)), 2}, {put(t, s, k, has[k]), 1}, {without(t, s, k), 2},
		} {
			if f := c.y.Fresh(); f < deep-1 || f > c.written*deep+1 {
				t.Errorf("%s, %d deep: Fresh %d", k, deep, f)
			}
			_, next := saved(t, c.y, p)
			shared := 0
			for _, at := range looked(t, p, next).nodes {
				if slices.Contains(l.nodes, at) {
					shared++
				}
			}
			if shared < len(l.nodes)-c.written*deep {
				t.Errorf("%s: %d of %d nodes are shared", k, shared, len(l.nodes))
			}
			errs(t, "Keep", p.Keep(addrs(l.nodes)), api.OK)
		}
	}
}

func addrs(l []api.Ptr) []uint32 {
	var all []uint32
	for _, at := range l {
		all = append(all, at.Addr)
	}
	return all
}

// P14.2, P14.4: with any node turned, a key is there, or the pool's error told; turned back, all is.
func TestNodesThatCannotBeRead(t *testing.T) {
	x, p, d := made(t, 256)
	has := many(100, 3)
	s, root := saved(t, putAll(t, x, has), p)
	errs(t, "Flush", d.Flush(), api.OK)
	for i, at := range looked(t, p, root).nodes {
		b, _ := d.Peek(at.Addr)
		b[i*31%512] ^= 4
		errs(t, "Poke", d.Poke(at.Addr, b), api.OK)
		told := 0
		for k, val := range has {
			v, e := s.Get(k)
			if e == api.ErrSum && v == "" {
				told++
				fails(t, "turned", s, k, api.ErrSum)
			} else if v != val || e != api.OK {
				t.Errorf("Get(%q): %q, error %d", k, v, e)
			}
		}
		if told == 0 || i == 0 && told != len(has) || i > 0 && told == len(has) {
			t.Errorf("node %d, turned, is told of %d keys", i, told)
		}
		for _, y := range []*Tree{s, opened(t, p, root)} {
			if l, e := y.Scan("", ""); len(l) != 0 || e != api.ErrSum {
				t.Errorf("node %d: Scan: %d keys, error %d", i, len(l), e)
			}
		}
		b[i*31%512] ^= 4
		errs(t, "Poke", d.Poke(at.Addr, b), api.OK)
	}
	is(t, "turned back", s, has)
}

// P14.2: a Delete that can't read a node it needs, whichever that is, tells the pool's error, and leaves the tree as it is.
func TestDeletesThatFail(t *testing.T) {
	x, p, d := made(t, 1024)
	has := map[string]string{}
	for i := range 200 {
		has[fmt.Sprintf("%03d", i)+strings.Repeat("x", 29)] = strings.Repeat("v", 96)
	}
	s, root := saved(t, putAll(t, x, has), p)
	errs(t, "Flush", d.Flush(), api.OK)
	l := looked(t, p, root)
	if deep := l.depth(t); deep < 4 {
		t.Errorf("just %d deep", deep)
	}
	for i, at := range l.nodes {
		if i%3 == 0 {
			continue
		}
		good, _ := d.Peek(at.Addr)
		errs(t, "Poke", d.Poke(at.Addr, make([]byte, 512)), api.OK)
		y, left := deletes(t, s, has, i%2 == 0)
		errs(t, "Poke", d.Poke(at.Addr, good), api.OK)
		if len(left) == 0 {
			t.Errorf("node %d isn't needed", i)
		}
		scans(t, "with the node there again", y, left, "", "")
	}
	scans(t, "ahead", s, has, "", "")
}

// deletes all keys that it can, rising or falling, and answers what is left.
func deletes(t *testing.T, x *Tree, has map[string]string, falls bool) (*Tree, map[string]string) {
	t.Helper()
	keys, left := slices.Sorted(maps.Keys(has)), maps.Clone(has)
	if falls {
		slices.Reverse(keys)
	}
	for _, k := range keys {
		y, e := x.Delete(k)
		if e == api.OK {
			x = y
			delete(left, k)
		} else if y != nil || e != api.ErrSum {
			t.Errorf("Delete(%q): %v, error %d", k, y != nil, e)
		}
	}
	return x, left
}

// P14.3: what a node is taken to have room for is what layer 9 says, so that each one that is written has room, and no room is left out.
func TestSizes(t *testing.T) {
	x, p, _ := made(t, 4096)
	_, root := saved(t, putAll(t, x, edges()), p)
	for _, at := range looked(t, p, root).nodes {
		n, _ := p.Read(at)
		if bytes, e := node.Size(n); size(itemsOf(n), n.Leaf) != bytes || e != api.OK {
			t.Errorf("%d, not %d: %v", size(itemsOf(n), n.Leaf), bytes, n)
		}
	}
}

// P14.1 to P14.3: of no tree there is nothing.
func TestNoTree(t *testing.T) {
	var x *Tree
	for _, key := range []string{"", "k", strings.Repeat("k", 33)} {
		fails(t, "no tree", x, key, api.ErrNil)
		if y, e := x.Put(key, strings.Repeat("v", 97)); y != nil || e != api.ErrNil {
			t.Errorf("Put: %v, error %d", y != nil, e)
		}
	}
	if l, e := x.Scan("b", "a"); len(l) != 0 || e != api.ErrNil {
		t.Errorf("Scan: %d keys, error %d", len(l), e)
	}
	refuses(t, "no tree", x, api.ErrNil)
	if x.Fresh() != 0 {
		t.Errorf("Fresh %d", x.Fresh())
	}
}

// P1: one that neither New nor Open made is empty, and can't be saved once it isn't.
func TestTreeThatNewDidNotMake(t *testing.T) {
	x := new(Tree)
	is(t, "empty", x, nil)
	lacks(t, "empty", x, "k")
	if _, root, e := x.Save(); root != (api.Ptr{}) || e != api.OK {
		t.Errorf("Save: %v, error %d", root, e)
	}
	y := put(t, x, "k", "v")
	is(t, "not empty", y, map[string]string{"k": "v"})
	refuses(t, "no pool", y, api.ErrNil)
}

// P14.2: what Scan answers is new memory.
func TestListsAreApart(t *testing.T) {
	x, p, _ := made(t, 64)
	has := many(30, 2)
	x = putAll(t, x, has)
	s, _ := saved(t, x, p)
	for _, y := range []*Tree{x, s} {
		a, _ := y.Scan("", "")
		b, _ := y.Scan("", "")
		clear(a[:cap(a)])
		if !slices.Equal(b, among(has, "", "")) {
			t.Error("a list was changed by another one")
		}
		is(t, "changed lists", y, has)
	}
}

// P14.1 to P14.4: the same calls are answered the same, to the bytes on the device.
func TestAnswersHangOnCallsAlone(t *testing.T) {
	answers := func() []any {
		x, p, d := made(t, 256)
		var l []any
		r := rand.New(rand.NewSource(3))
		for i := range 300 {
			k := key(r, i%4)
			y, e := x.Put(k, "v")
			if i%3 == 0 {
				y, e = x.Delete(k)
			}
			if e == api.OK {
				x = y
			}
			l = append(l, e, x.Fresh())
		}
		_, root, e := x.Save()
		all, f := x.Scan("", "")
		l = append(l, root, e, all, f)
		for addr := range uint32(256) {
			b, _ := d.Read(addr)
			l = append(l, b)
		}
		return append(l, p.Taken())
	}
	if !reflect.DeepEqual(answers(), answers()) {
		t.Error("two answers")
	}
}
