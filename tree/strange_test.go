package tree

import (
	"fmt"
	"math/rand"
	"slices"
	"strings"
	"testing"

	"banyan/api"
	"banyan/node"
	"banyan/pool"
)

// wrote is where a node is written.
func wrote(t *testing.T, p *pool.Pool, n api.Node) api.Ptr {
	t.Helper()
	at, e := p.Write(n)
	if e != api.OK {
		t.Fatalf("Write of %v: error %d", n, e)
	}
	return at
}

// leaf is where one of some keys is written; each one's value is v and itself.
func leaf(t *testing.T, p *pool.Pool, keys ...string) api.Ptr {
	t.Helper()
	n := api.Node{Leaf: true, Keys: keys}
	for _, key := range keys {
		n.Vals = append(n.Vals, "v"+key)
	}
	return wrote(t, p, n)
}

// branch is where one of kids, parted by keys, is written.
func branch(t *testing.T, p *pool.Pool, keys string, kids ...api.Ptr) api.Ptr {
	t.Helper()
	return wrote(t, p, api.Node{Keys: strings.Fields(keys), Kids: kids})
}

// holding is a map of keys, as leaf has them.
func holding(keys string) map[string]string {
	has := map[string]string{}
	for _, key := range strings.Fields(keys) {
		has[key] = "v" + key
	}
	return has
}

// hand are saved trees that other hands wrote: each a root, and its keys. How keys are spread is anyone's.
func hand(t *testing.T, p *pool.Pool) map[api.Ptr]string {
	one := leaf(t, p, "k")
	long := strings.Repeat("m", 32)
	thin := branch(t, p, "b c d", leaf(t, p, "a"), leaf(t, p, "b"), leaf(t, p, "c"), leaf(t, p, "d"))
	apart := branch(t, p, "d "+long+" n", leaf(t, p, "a", "b"), leaf(t, p, "da"), leaf(t, p, "mn"), leaf(t, p, "z"))
	uneven := branch(t, p, "e", thin, leaf(t, p, "f"))
	other := branch(t, p, "c", leaf(t, p, "a"), branch(t, p, "m", leaf(t, p, "c", "d"), branch(t, p, "x", leaf(t, p, "n"), leaf(t, p, "y"))))
	return map[api.Ptr]string{
		one: "k", thin: "a b c d", apart: "a b da mn z", uneven: "a b c d f", other: "a c d n y",
	}
}

// P14.1 to P14.3: saved trees of other hands are opened as they were saved, and put to, and deleted from.
func TestTreesOfOtherHands(t *testing.T) {
	_, p, _ := made(t, 4096)
	for root, keys := range hand(t, p) {
		x := opened(t, p, root)
		has := holding(keys)
		is(t, keys, x, has)
		for _, from := range []string{"", "a", "b", "bb", "c", "m", "x"} {
			for _, to := range []string{"", "a", "b", "bb", "c", "m", "x"} {
				scans(t, keys, x, has, from, to)
			}
		}
		for _, k := range []string{"\x00", "a", "aa", "d", "e", "ea", "m", "mm", "x", "xx", "z", "zz"} {
			y := put(t, x, k, "new")
			then := holding(keys)
			then[k] = "new"
			wellSaved(t, keys+" and "+k, y, p, then)
		}
		shrinks(t, keys, x, p, has, 3)
		is(t, keys+", ahead", x, has)
	}
}

// shrinks deletes each key, and then each other one of what is left, and so on.
func shrinks(t *testing.T, what string, x *Tree, p *pool.Pool, has map[string]string, times int) {
	t.Helper()
	for _, kv := range among(has, "", "") {
		y := without(t, x, kv.K)
		delete(has, kv.K)
		wellSaved(t, what+" without "+kv.K, y, p, has)
		if times > 1 {
			shrinks(t, what+" without "+kv.K, y, p, has, times-1)
		}
		has[kv.K] = kv.V
	}
}

// wellSaved has a tree be just a map, be saved, and the pool then be as it was.
func wellSaved(t *testing.T, what string, x *Tree, p *pool.Pool, has map[string]string) {
	t.Helper()
	taken := p.Taken()
	is(t, what, x, has)
	_, root := saved(t, x, p)
	if l := looked(t, p, root); len(l.has) != len(has) {
		t.Errorf("%s: %d keys, not %d", what, len(l.has), len(has))
	}
	is(t, what+", opened", opened(t, p, root), has)
	errs(t, "Keep", p.Keep(taken), api.OK)
}

// agree has Scan and Get tell the same keys, rising, and answers them.
func agree(t *testing.T, what string, x *Tree) map[string]string {
	t.Helper()
	l, e := x.Scan("", "")
	errs(t, what, e, api.OK)
	has := map[string]string{}
	for i, kv := range l {
		if i > 0 && kv.K <= l[i-1].K {
			t.Errorf("%s: %q is behind %q", what, kv.K, l[i-1].K)
		}
		gets(t, what, x, kv.K, kv.V)
		has[kv.K] = kv.V
	}
	for c := range 26 {
		k := string(rune('a' + c))
		v, e := x.Get(k)
		if w, there := has[k]; v != w || there != (e == api.OK) || !there && e != api.ErrNone {
			t.Errorf("%s: Get(%q): %q, error %d, not %q", what, k, v, e, w)
		}
	}
	return has
}

// strange does all calls to a tree of nodes that nobody would save so.
func strange(t *testing.T, what string, p *pool.Pool, root api.Ptr) {
	t.Helper()
	taken := p.Taken()
	x := opened(t, p, root)
	has := agree(t, what, x)
	for c := range 26 {
		k := string(rune('a' + c))
		y := put(t, x, k, "new")
		was, there := has[k]
		has[k] = "new"
		scans(t, what+", put "+k, y, has, "", "")
		s, _ := saved(t, y, p)
		scans(t, what+", saved with "+k, s, has, "", "")
		delete(has, k)
		if there {
			has[k] = was
			y = without(t, x, k)
			agree(t, what+", without "+k, y)
			_, root := saved(t, y, p)
			agree(t, what+", saved without "+k, opened(t, p, root))
		}
		errs(t, "Keep", p.Keep(taken), api.OK)
	}
	for k := range has { // what no way led to may come to be led to, so that this needn't come to nothing
		if y, e := x.Delete(k); e == api.OK {
			x = y
		} else if e != api.ErrNone {
			t.Errorf("%s: Delete(%q): error %d", what, k, e)
		}
	}
	agree(t, what+", with much deleted", x)
	saved(t, x, p)
	errs(t, "Keep", p.Keep(taken), api.OK)
}

// P1: trees that nobody saves so, of leaves of nothing, keys that no way leads to, and kids that are led to twice, are told, and changed, as far as ways lead.
func TestStrangeTrees(t *testing.T) {
	_, p, _ := made(t, 4096)
	none, some, all := leaf(t, p), leaf(t, p, "b", "k", "t"), leaf(t, p, strings.Split("abcdefghijklmnopqrstuvwxyz", "")...)
	twice := branch(t, p, "k", some, some)
	for i, root := range []api.Ptr{
		none,
		branch(t, p, "k", none, none),
		branch(t, p, "k", none, some),
		branch(t, p, "k", some, none),
		branch(t, p, "f k p", none, some, none, all),
		branch(t, p, "a b", all, all, all),
		branch(t, p, "k", leaf(t, p, "z"), leaf(t, p, "a")),
		twice,
		branch(t, p, "a z", twice, twice, twice),
		branch(t, p, "b", branch(t, p, "x y z", all, some, all, some), branch(t, p, "a", all, all)),
		branch(t, p, "b", branch(t, p, "x", none, some), branch(t, p, "a", none, none)),
		branch(t, p, "m", branch(t, p, "x", none, some), all),
		branch(t, p, "m", none, branch(t, p, "a", all, none)),
	} {
		strange(t, fmt.Sprintf("strange tree %d", i), p, root)
	}
}

// P1: such trees, by chance.
func TestStrangeTreesByChance(t *testing.T) {
	for seed := range 16 {
		r := rand.New(rand.NewSource(int64(seed)))
		_, p, _ := made(t, 1024)
		var nodes []api.Ptr
		for range 40 {
			var keys []string
			for c := range 26 {
				if r.Intn(26) < 4 {
					keys = append(keys, string(rune('a'+c))+strings.Repeat("x", r.Intn(32)*r.Intn(2)))
				}
			}
			n := api.Node{Leaf: true, Keys: keys, Vals: make([]string, len(keys))}
			if len(nodes) > 5 && len(keys) > 0 {
				n = api.Node{Keys: keys}
				for range len(keys) + 1 {
					n.Kids = append(n.Kids, nodes[r.Intn(len(nodes))])
				}
			}
			if node.Check(n) == api.OK {
				nodes = append(nodes, wrote(t, p, n))
			}
		}
		strange(t, fmt.Sprintf("strange tree by chance %d", seed), p, nodes[len(nodes)-1])
	}
}

// P1: a tree that is as deep as a device lets it be, and whose nodes are each led to twice, so that ways without end lead to a leaf, is looked at in a time that ends.
func TestDeepTrees(t *testing.T) {
	_, p, _ := made(t, 4096)
	lone, twice := leaf(t, p, "m"), leaf(t, p)
	for i := range 1000 {
		lone = branch(t, p, "n", lone, leaf(t, p, "n"))
		if i < 100 {
			twice = branch(t, p, fmt.Sprintf("%03d", i*37%100), twice, twice)
		}
	}
	x := opened(t, p, lone)
	is(t, "deep", x, holding("m n"))
	y, e := x.Put("a", "va")
	errs(t, "Put", e, api.OK)
	is(t, "deep", y, holding("a m n"))
	y, e = y.Delete("m")
	errs(t, "Delete", e, api.OK)
	is(t, "deep", y, holding("a n"))
	x = opened(t, p, twice)
	is(t, "led to twice", x, nil)
	lacks(t, "led to twice", x, "050")
	y, e = x.Put("050", "v050")
	errs(t, "Put", e, api.OK)
	is(t, "led to twice", y, holding("050"))
	if slices.Contains(p.Taken(), 4095) {
		t.Error("the device was too small")
	}
}
