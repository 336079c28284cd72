package tree

import (
	"fmt"
	"maps"
	"math/rand"
	"slices"
	"strings"
	"testing"

	"banyan/api"
	"banyan/dev"
	"banyan/pool"
	"banyan/seal"
)

// most is how many nodes a Put, or Delete, may have Fresh rise by.
const most = 70

// made is an empty tree over a pool, that has a birth, and the pool's device.
func made(t *testing.T, size int) (*Tree, *pool.Pool, *dev.Dev) {
	t.Helper()
	d, e := dev.New(size)
	errs(t, "a device", e, api.OK)
	p, e := pool.New(d, seal.Derive([]byte("master")))
	errs(t, "a pool", e, api.OK)
	errs(t, "Begin", p.Begin(1), api.OK)
	x, e := New(p)
	if x == nil || e != api.OK {
		t.Fatalf("New: error %d", e)
	}
	return x, p, d
}

// errs tells if an error is that one.
func errs(t *testing.T, what string, got, want api.Errno) {
	t.Helper()
	if got != want {
		t.Errorf("%s: error %d, not %d", what, got, want)
	}
}

// put is a tree with one value more, that must rise by few nodes.
func put(t *testing.T, x *Tree, key, val string) *Tree {
	t.Helper()
	fresh := x.Fresh()
	y, e := x.Put(key, val)
	if y == nil || e != api.OK {
		t.Fatalf("Put(%q, %q): error %d", key, val, e)
	}
	if y.Fresh() < 1 || y.Fresh() > fresh+most || x.Fresh() != fresh {
		t.Errorf("Put(%q): Fresh is %d, and was %d, and is %d of the one ahead", key, y.Fresh(), fresh, x.Fresh())
	}
	return y
}

// without is a tree without a key.
func without(t *testing.T, x *Tree, key string) *Tree {
	t.Helper()
	fresh := x.Fresh()
	y, e := x.Delete(key)
	if y == nil || e != api.OK {
		t.Fatalf("Delete(%q): error %d", key, e)
	}
	if y.Fresh() < 0 || y.Fresh() > fresh+most || x.Fresh() != fresh {
		t.Errorf("Delete(%q): Fresh is %d, and was %d, and is %d of the one ahead", key, y.Fresh(), fresh, x.Fresh())
	}
	return y
}

// putAll is a tree with all of a map put, rising.
func putAll(t *testing.T, x *Tree, has map[string]string) *Tree {
	t.Helper()
	for _, key := range slices.Sorted(maps.Keys(has)) {
		x = put(t, x, key, has[key])
	}
	return x
}

// saved is what Save answers, that must go well, with all that is told of it.
func saved(t *testing.T, x *Tree, p *pool.Pool) (*Tree, api.Ptr) {
	t.Helper()
	fresh, left := x.Fresh(), p.Left()
	s, root, e := x.Save()
	if s == nil || e != api.OK {
		t.Fatalf("Save: error %d", e)
	}
	if s.Fresh() != 0 || x.Fresh() != fresh || p.Left() != left-fresh {
		t.Errorf("Save of %d: Fresh is %d, and of the one ahead %d; %d left, of %d", fresh, s.Fresh(), x.Fresh(), p.Left(), left)
	}
	return s, root
}

// opened is a tree that was saved there.
func opened(t *testing.T, p *pool.Pool, root api.Ptr) *Tree {
	t.Helper()
	x, e := Open(p, root)
	if x == nil || e != api.OK || x.Fresh() != 0 {
		t.Fatalf("Open: error %d, Fresh %d", e, x.Fresh())
	}
	return x
}

// among are the keys of a map from one on, and ahead of another, and their values, rising.
func among(has map[string]string, from, to string) []api.KV {
	var l []api.KV
	for _, key := range slices.Sorted(maps.Keys(has)) {
		if key >= from && (to == "" || key < to) {
			l = append(l, api.KV{K: key, V: has[key]})
		}
	}
	return l
}

// scans has Scan answer what is among a map.
func scans(t *testing.T, what string, x *Tree, has map[string]string, from, to string) {
	t.Helper()
	want := among(has, from, to)
	if l, e := x.Scan(from, to); !slices.Equal(l, want) || e != api.OK {
		t.Errorf("%s: Scan(%q, %q): %d keys, error %d, not the %d that are right", what, from, to, len(l), e, len(want))
	}
}

// is has a tree be just a map.
func is(t *testing.T, what string, x *Tree, has map[string]string) {
	t.Helper()
	scans(t, what, x, has, "", "")
	for key, val := range has {
		gets(t, what, x, key, val)
	}
}

// gets has Get answer a value.
func gets(t *testing.T, what string, x *Tree, key, val string) {
	t.Helper()
	if v, e := x.Get(key); v != val || e != api.OK {
		t.Errorf("%s: Get(%q): %q, error %d, not %q", what, key, v, e, val)
	}
}

// lacks has a key not be there.
func lacks(t *testing.T, what string, x *Tree, key string) {
	t.Helper()
	if v, e := x.Get(key); v != "" || e != api.ErrNone {
		t.Errorf("%s: Get(%q): %q, error %d", what, key, v, e)
	}
	if y, e := x.Delete(key); y != nil || e != api.ErrNone {
		t.Errorf("%s: Delete(%q): %v, error %d", what, key, y != nil, e)
	}
}

// fails has every call that needs a key's node answer an error.
func fails(t *testing.T, what string, x *Tree, key string, err api.Errno) {
	t.Helper()
	if v, e := x.Get(key); v != "" || e != err {
		t.Errorf("%s: Get(%q): %q, error %d, not %d", what, key, v, e, err)
	}
	if y, e := x.Put(key, "v"); y != nil || e != err {
		t.Errorf("%s: Put(%q): %v, error %d, not %d", what, key, y != nil, e, err)
	}
	if y, e := x.Delete(key); y != nil || e != err {
		t.Errorf("%s: Delete(%q): %v, error %d, not %d", what, key, y != nil, e, err)
	}
	if l, e := x.Scan(key, key+"\x00"); len(l) != 0 || e != err {
		t.Errorf("%s: Scan(%q): %d keys, error %d, not %d", what, key, len(l), e, err)
	}
	if l, e := x.Scan("", ""); len(l) != 0 || e != err {
		t.Errorf("%s: Scan: %d keys, error %d, not %d", what, len(l), e, err)
	}
}

// many are so many keys, of a length, with values of all lengths.
func many(count, length int) map[string]string {
	has := map[string]string{}
	for i := range count {
		has[fmt.Sprintf("%0*d", length, i)] = strings.Repeat("v", i%97)
	}
	return has
}

// look is a plain look at a saved tree: its nodes, and what they have.
type look struct {
	p     *pool.Pool
	nodes []api.Ptr // a node ahead of its kids
	has   map[string]string
	deep  map[int]int // by how deep: how many leaves
}

// looked looks at a whole tree.
func looked(t *testing.T, p *pool.Pool, root api.Ptr) *look {
	t.Helper()
	l := &look{p: p, has: map[string]string{}, deep: map[int]int{}}
	if root != (api.Ptr{}) {
		l.at(t, root, "", "", 1)
	}
	return l
}

// at looks at a node, whose keys must be from one on, and ahead of another.
func (l *look) at(t *testing.T, at api.Ptr, from, to string, deep int) {
	t.Helper()
	n, e := l.p.Read(at)
	if e != api.OK {
		t.Fatalf("a node: error %d", e)
	}
	l.nodes = append(l.nodes, at)
	for _, key := range n.Keys {
		if key < from || to != "" && key >= to {
			t.Errorf("key %q isn't from %q to %q", key, from, to)
		}
	}
	if n.Leaf {
		if len(n.Keys) == 0 {
			t.Errorf("a leaf of nothing, from %q to %q", from, to)
		}
		for i, key := range n.Keys {
			l.has[key] = n.Vals[i]
		}
		l.deep[deep]++
		return
	}
	for i, kid := range n.Kids {
		low, high := from, to
		if i > 0 {
			low = n.Keys[i-1]
		}
		if i < len(n.Keys) {
			high = n.Keys[i]
		}
		l.at(t, kid, low, high, deep+1)
	}
}

// depth is how deep the leaves are, which must all be equally deep.
func (l *look) depth(t *testing.T) int {
	t.Helper()
	if len(l.deep) > 1 {
		t.Errorf("leaves, by how deep they are: %v", l.deep)
	}
	for deep := range l.deep {
		return deep
	}
	return 0
}

// P14.1: of no pool there is no tree.
func TestNoPool(t *testing.T) {
	if x, e := New(nil); x != nil || e != api.ErrNil {
		t.Errorf("New: %v, error %d", x != nil, e)
	}
	for _, root := range []api.Ptr{{}, {Addr: 2, Birth: 1}, {Addr: 1}} {
		if x, e := Open(nil, root); x != nil || e != api.ErrNil {
			t.Errorf("Open(%v): %v, error %d", root, x != nil, e)
		}
	}
}

// P14.1, P14.3: a new tree, one of a null root, and one whose keys are all deleted, is empty, and saved by nothing.
func TestEmpty(t *testing.T) {
	x, p, d := made(t, 16)
	errs(t, "Flush", d.Flush(), api.OK)
	d.Limit(0)
	for i, y := range []*Tree{x, opened(t, p, api.Ptr{}), opened(t, p, api.Ptr{Birth: 5, Sum: api.Hash{1}}), without(t, put(t, x, "k", "v"), "k")} {
		what := fmt.Sprintf("empty tree %d", i)
		is(t, what, y, nil)
		lacks(t, what, y, "k")
		if s, root := saved(t, y, p); root != (api.Ptr{}) || y.Fresh() != 0 {
			t.Errorf("%s: saved at %v, Fresh %d", what, root, y.Fresh())
		} else {
			is(t, what+", saved", s, nil)
		}
	}
	if p.Left() != 14 || d.Waits() != 0 || d.Down() {
		t.Errorf("%d left, %d wait, down %v", p.Left(), d.Waits(), d.Down())
	}
}

// P14.1: Open asks nothing of the pool, so that it goes well whatever lies there, and a node that can't be read is told by the pool's error.
func TestOpenReadsNothing(t *testing.T) {
	x, p, d := made(t, 16)
	_, root := saved(t, put(t, x, "k", "v"), p)
	errs(t, "Flush", d.Flush(), api.OK)
	turned := root
	turned.Sum[7] ^= 1
	for at, err := range map[api.Ptr]api.Errno{
		{Addr: 1, Birth: 1}: api.ErrArg, {Addr: 16, Birth: 1}: api.ErrArg, {Addr: 3}: api.ErrArg, {Addr: 3, Birth: 1}: api.ErrSum, turned: api.ErrSum,
	} {
		fails(t, fmt.Sprint(at), opened(t, p, at), "k", err)
	}
	d.Limit(0)
	errs(t, "Flush", d.Flush(), api.ErrDown)
	y := opened(t, p, root)
	fails(t, "down", y, "k", api.ErrDown)
	d.Crash(0, -1)
	is(t, "up again", y, map[string]string{"k": "v"})
}

// P14.1, P14.3: what was opened is saved already, be it read or not.
func TestSaveOfWhatWasOpened(t *testing.T) {
	_, p, d := made(t, 16)
	for _, root := range []api.Ptr{{Addr: 3, Birth: 1}, {Addr: 99, Birth: 1}} {
		if _, at := saved(t, opened(t, p, root), p); at != root || d.Waits() != 0 {
			t.Errorf("saved at %v, not %v; %d wait", at, root, d.Waits())
		}
	}
}

// P14.2: the chapter's example.
func TestExample(t *testing.T) {
	x, _, _ := made(t, 16)
	a := put(t, x, "a", "1")
	b := put(t, a, "b", "2")
	is(t, "the first", x, nil)
	is(t, "the second", a, map[string]string{"a": "1"})
	is(t, "the third", b, map[string]string{"a": "1", "b": "2"})
}

// P14.2: keys and values that may not be, of trees of all kinds, ahead of what can't be read.
func TestArguments(t *testing.T) {
	x, p, _ := made(t, 16)
	long, big := strings.Repeat("k", 33), strings.Repeat("v", 97)
	for i, y := range []*Tree{x, put(t, x, "k", "v"), opened(t, p, api.Ptr{Addr: 3, Birth: 1}), opened(t, p, api.Ptr{Addr: 1})} {
		fresh := y.Fresh()
		for _, key := range []string{"", long, long + long, strings.Repeat("k", 256), strings.Repeat("k", 65537)} {
			if v, e := y.Get(key); v != "" || e != api.ErrArg {
				t.Errorf("tree %d: Get of %d bytes: %q, error %d", i, len(key), v, e)
			}
			if z, e := y.Delete(key); z != nil || e != api.ErrArg {
				t.Errorf("tree %d: Delete of %d bytes: %v, error %d", i, len(key), z != nil, e)
			}
			for _, val := range []string{"", "v", big} {
				if z, e := y.Put(key, val); z != nil || e != api.ErrArg {
					t.Errorf("tree %d: Put of %d bytes: %v, error %d", i, len(key), z != nil, e)
				}
			}
		}
		for _, val := range []string{big, big + big, strings.Repeat("v", 256), strings.Repeat("v", 65536)} {
			if z, e := y.Put("k", val); z != nil || e != api.ErrArg {
				t.Errorf("tree %d: Put of a value of %d bytes: %v, error %d", i, len(val), z != nil, e)
			}
		}
		if y.Fresh() != fresh {
			t.Errorf("tree %d: Fresh is %d, not %d", i, y.Fresh(), fresh)
		}
	}
}

// edges are keys and values of all lengths at the edges, and of all bytes.
func edges() map[string]string {
	has := map[string]string{}
	for c := range 256 {
		b := string([]byte{byte(c)})
		has[b] = strings.Repeat(b, c%97)
		has[strings.Repeat(b, 32)] = strings.Repeat("v", 96)
		has[b+strings.Repeat("\x00", c%32)] = ""
		has["m"+b] = b
	}
	return has
}

// P14.2, P14.3, P14.4: keys and values at the edges, put in any order, are there; saved, and opened, too.
func TestKeysAndValuesAtTheEdges(t *testing.T) {
	has := edges()
	for seed := range 3 {
		x, p, _ := made(t, 4096)
		keys := slices.Sorted(maps.Keys(has))
		switch seed {
		case 0:
		case 1:
			slices.Reverse(keys)
		default:
			rand.New(rand.NewSource(int64(seed))).Shuffle(len(keys), func(i, j int) { keys[i], keys[j] = keys[j], keys[i] })
		}
		for _, key := range keys {
			lacks(t, "ahead of Put", x, key)
			x = put(t, x, key, has[key])
			gets(t, "put", x, key, has[key])
		}
		is(t, "all put", x, has)
		s, root := saved(t, x, p)
		scans(t, "saved", s, has, "", "")
		is(t, "opened", opened(t, p, root), has)
		if l := looked(t, p, root); !maps.Equal(l.has, has) || len(l.nodes) != x.Fresh() {
			t.Errorf("%d keys, not %d; %d nodes, not %d", len(l.has), len(has), len(l.nodes), x.Fresh())
		}
		y, left := opened(t, p, root), maps.Clone(has)
		for i, key := range keys {
			y = without(t, y, key)
			delete(left, key)
			lacks(t, "deleted", y, key)
			if i%100 == 0 || i > len(keys)-5 {
				scans(t, "some deleted", y, left, "", "")
			}
		}
		is(t, "all deleted", y, nil)
		scans(t, "as it was saved", s, has, "", "")
	}
}

// P14.2: all spans from one text to another: the ends are keys, stand between keys, are longer than a key may be, or the wrong way round.
func TestScan(t *testing.T) {
	x, p, _ := made(t, 256)
	has := many(120, 3)
	x = putAll(t, x, has)
	s, root := saved(t, x, p)
	ends := []string{"", "\x00", "000", "0000", "001", "01", "02", "050", "0505", "060", "0600", "061", "118", "119", "119\x00", "12", "\xff", strings.Repeat("0", 40), strings.Repeat("\xff", 300)}
	for _, from := range ends {
		for _, to := range ends {
			scans(t, "put", x, has, from, to)
			scans(t, "saved", s, has, from, to)
			scans(t, "opened", opened(t, p, root), has, from, to)
		}
	}
}

// P14.2: Scan of every span of a few keys.
func TestScanOfFew(t *testing.T) {
	x, _, _ := made(t, 16)
	has := map[string]string{}
	texts := []string{"", "a", "aa", "ab", "b", "ba", "c"}
	for _, key := range texts[1:6] {
		has[key] = "v" + key
		x = put(t, x, key, has[key])
		for _, from := range texts {
			for _, to := range texts {
				scans(t, "few", x, has, from, to)
			}
		}
	}
}

// P14.2: a value is another one's then; the tree ahead has the one it had.
func TestPutOfAKeyThatIsThere(t *testing.T) {
	x, p, _ := made(t, 1024)
	has := many(60, 4)
	x = putAll(t, x, has)
	s, _ := saved(t, x, p)
	for _, ahead := range []*Tree{x, s} {
		for key := range has {
			for _, val := range []string{"", "new", strings.Repeat("w", 96)} {
				y := put(t, ahead, key, val)
				then := maps.Clone(has)
				then[key] = val
				gets(t, "put anew", y, key, val)
				scans(t, "put anew", y, then, "", "")
			}
		}
		is(t, "ahead", ahead, has)
	}
}

// version is a tree, and what it must have, as long as it is there.
type version struct {
	x   *Tree
	has map[string]string
}

// P14.2, P14.4: whatever is made of a tree, and of what was made of it, all stay as they are.
func TestAllStay(t *testing.T) {
	x, p, _ := made(t, 4096)
	r := rand.New(rand.NewSource(5))
	all := []version{{x, map[string]string{}}}
	for i := range 1500 {
		from := all[r.Intn(len(all))]
		if r.Intn(3) > 0 {
			from = all[len(all)-1-r.Intn(min(len(all), 5))]
		}
		next := version{nil, maps.Clone(from.has)}
		key := fmt.Sprintf("%0*d", 1+r.Intn(8), r.Intn(60))
		if _, there := from.has[key]; there && r.Intn(2) == 0 {
			next.x = without(t, from.x, key)
			delete(next.has, key)
		} else {
			next.has[key] = strings.Repeat("v", r.Intn(97))
			next.x = put(t, from.x, key, next.has[key])
		}
		if i%50 == 0 {
			next.x, _ = saved(t, next.x, p)
		}
		all = append(all, next)
	}
	for i, v := range all {
		scans(t, fmt.Sprintf("tree %d", i), v.x, v.has, "", "")
	}
}

// key is one by chance, of a kind: of few letters, long ones that differ late, of all lengths, or small numbers.
func key(r *rand.Rand, kind int) string {
	switch kind {
	case 0:
		b := make([]byte, 1+r.Intn(4))
		for i := range b {
			b[i] = "\x00ab\xff"[r.Intn(4)]
		}
		return string(b)
	case 1:
		return strings.Repeat("p", 28) + fmt.Sprintf("%04d", r.Intn(2000))
	case 2:
		return fmt.Sprintf("%04d", r.Intn(400)) + strings.Repeat("x", r.Intn(29))
	}
	return fmt.Sprint(r.Intn(3000))
}

// P14.2, P14.3, P14.4: many things in turn, beside a map, through saves, and openings.
func TestBesidePlainMap(t *testing.T) {
	for seed := range 16 {
		r := rand.New(rand.NewSource(int64(seed)))
		kind, val := seed%4, []int{97, 4}[seed/4%2]
		x, p, _ := made(t, 4096)
		has := map[string]string{}
		grows := true
		for i := range 6000 {
			if i%1000 == 0 {
				grows = i%2000 == 0
			}
			k := key(r, kind)
			was, there := has[k]
			switch {
			case r.Intn(5) == 0 && there:
				gets(t, "by chance", x, k, was)
			case r.Intn(5) == 0 && !there:
				lacks(t, "by chance", x, k)
			case grows == (r.Intn(6) > 0):
				has[k] = strings.Repeat(string(rune('a'+r.Intn(26))), r.Intn(val))
				x = put(t, x, k, has[k])
			default:
				if l := among(has, k, ""); len(l) > 0 {
					x = without(t, x, l[0].K)
					delete(has, l[0].K)
				}
			}
			if r.Intn(200) == 0 {
				scans(t, "by chance", x, has, key(r, kind), key(r, kind))
			}
			if r.Intn(400) == 0 {
				x = reopened(t, r, x, p, has)
			}
		}
		is(t, fmt.Sprintf("run %d", seed), x, has)
	}
}

// reopened saves a tree, looks at it, and has the pool keep just its nodes.
func reopened(t *testing.T, r *rand.Rand, x *Tree, p *pool.Pool, has map[string]string) *Tree {
	t.Helper()
	s, root := saved(t, x, p)
	l := looked(t, p, root)
	if !maps.Equal(l.has, has) {
		t.Errorf("%d keys, not %d, or others", len(l.has), len(has))
	}
	if deep := l.depth(t); deep > 12 {
		t.Errorf("%d keys are %d deep", len(has), deep)
	}
	var kept []uint32
	for _, at := range l.nodes {
		kept = append(kept, at.Addr)
	}
	errs(t, "Keep", p.Keep(kept), api.OK)
	if r.Intn(2) == 0 {
		return s
	}
	return opened(t, p, root)
}
