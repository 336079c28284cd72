package walk

import (
	"crypto/sha256"
	"fmt"
	"slices"
	"strings"
	"testing"

	"banyan/api"
	"banyan/dev"
	"banyan/dir"
	"banyan/pool"
	"banyan/seal"
	"banyan/tree"
)

var master = seal.Derive([]byte("master"))

// A disk is a pool that has a birth, its device, and what was written there by write: kids, and the error of what can't be read.
type disk struct {
	*testing.T
	p    *pool.Pool
	d    *dev.Dev
	kids map[api.Ptr][]api.Ptr
	bad  map[api.Ptr]api.Errno
	next int // a number for the next leaf
	size int
	torn uint32 // the last sector that was taken by hand, from the end on
}

func made(t *testing.T, size int) *disk {
	t.Helper()
	d, e := dev.New(size)
	errs(t, "a device", e, api.OK)
	p, e := pool.New(d, master)
	errs(t, "a pool", e, api.OK)
	errs(t, "Begin", p.Begin(1), api.OK)
	return &disk{T: t, p: p, d: d, kids: map[api.Ptr][]api.Ptr{}, bad: map[api.Ptr]api.Errno{}, size: size, torn: uint32(size)}
}

// errs tells if an error is that one.
func errs(t *testing.T, what string, got, want api.Errno) {
	t.Helper()
	if got != want {
		t.Errorf("%s: error %d, not %d", what, got, want)
	}
}

func (x *disk) write(n api.Node) api.Ptr {
	x.Helper()
	at, e := x.p.Write(n)
	if e != api.OK {
		x.Fatalf("Write: error %d", e)
	}
	x.kids[at] = n.Kids
	return at
}

// leaf is a new one, of a key of its own.
func (x *disk) leaf() api.Ptr {
	x.Helper()
	x.next++
	return x.write(api.Node{Leaf: true, Keys: []string{fmt.Sprint(x.next)}, Vals: []string{""}})
}

// branch is one of at least two kids.
func (x *disk) branch(kids ...api.Ptr) api.Ptr {
	x.Helper()
	n := api.Node{Kids: kids}
	for i := range kids[1:] {
		n.Keys = append(n.Keys, fmt.Sprintf("%02d", i))
	}
	return x.write(n)
}

// turned is a leaf that is changed where it lies: ErrSum.
func (x *disk) turned() api.Ptr {
	x.Helper()
	at := x.leaf()
	x.turn(at)
	return at
}

// turn changes a node where it lies.
func (x *disk) turn(at api.Ptr) {
	x.Helper()
	b, e := x.d.Read(at.Addr)
	errs(x.T, "Read", e, api.OK)
	b[7] ^= 4
	errs(x.T, "Write", x.d.Write(at.Addr, b), api.OK)
	x.bad[at] = api.ErrSum
}

// noNode is a sector, at the end of the device, that is sealed, and no node's: ErrForm.
func (x *disk) noNode() api.Ptr {
	x.Helper()
	x.torn--
	b, at, e := seal.Seal(master, 1, x.torn, make([]byte, api.Sector))
	errs(x.T, "Seal", e, api.OK)
	errs(x.T, "Write", x.d.Write(at.Addr, b), api.OK)
	x.bad[at] = api.ErrForm
	return at
}

// beyond is a pointer to where the device has no sector, that a node may have: ErrArg.
func (x *disk) beyond() api.Ptr {
	x.next++
	at := api.Ptr{Addr: uint32(x.size), Birth: uint64(x.next)}
	x.bad[at] = api.ErrArg
	return at
}

// below is all that is met in a tree, however often, told plainly, and the first error.
func (x *disk) below(at api.Ptr) ([]api.Ptr, api.Errno) {
	if at.Addr == 0 {
		return nil, api.OK
	}
	if e := x.bad[at]; e != api.OK {
		return nil, e
	}
	l := []api.Ptr{at}
	for _, kid := range x.kids[at] {
		more, e := x.below(kid)
		if e != api.OK {
			return nil, e
		}
		l = append(l, more...)
	}
	return l, api.OK
}

// once is a list without what stands ahead of it already.
func once(l []api.Ptr) []api.Ptr {
	var kept []api.Ptr
	for _, at := range l {
		if !slices.Contains(kept, at) {
			kept = append(kept, at)
		}
	}
	return kept
}

// counted is how often each pointer of some trees is led to, told plainly.
func (x *disk) counted(roots []api.Ptr) (map[api.Ptr]int, api.Errno) {
	count := map[api.Ptr]int{}
	var all []api.Ptr
	for _, root := range roots {
		l, e := x.below(root)
		if e != api.OK {
			return nil, e
		}
		if root.Addr != 0 {
			count[root]++
		}
		all = append(all, l...)
	}
	for _, at := range once(all) {
		for _, kid := range x.kids[at] {
			count[kid]++
		}
	}
	return count, api.OK
}

// nodes has Nodes answer that list, or that error and nothing beside.
func (x *disk) nodes(what string, root api.Ptr, want []api.Ptr, err api.Errno) {
	x.Helper()
	if l, e := Nodes(x.p, root); !slices.Equal(l, want) || e != err {
		x.Errorf("%s: Nodes: %d, error %d, not %d, error %d", what, addrs(l), e, addrs(want), err)
	}
}

// nodesPlainly has Nodes answer what is told plainly.
func (x *disk) nodesPlainly(what string, root api.Ptr) {
	x.Helper()
	l, e := x.below(root)
	x.nodes(what, root, once(l), e)
}

// counts has Count answer just those counts, or that error and nothing beside.
func (x *disk) counts(what string, roots []api.Ptr, want map[api.Ptr]int, err api.Errno) {
	x.Helper()
	c, e := Count(x.p, roots)
	if e != err || (c == nil) != (err != api.OK) {
		x.Errorf("%s: Count: %v, error %d, not %d", what, c != nil, e, err)
	}
	if c.Len() != len(want) {
		x.Errorf("%s: Count: %d pointers, not %d", what, c.Len(), len(want))
	}
	for at, n := range want {
		if c.Of(at) != n {
			x.Errorf("%s: Count: %d at sector %d, not %d", what, c.Of(at), at.Addr, n)
		}
	}
}

// countsPlainly has Count answer what is told plainly.
func (x *disk) countsPlainly(what string, roots ...api.Ptr) {
	x.Helper()
	want, e := x.counted(roots)
	x.counts(what, roots, want, e)
}

// alike has Alike answer that, either way round.
func (x *disk) alike(what string, a, b api.Ptr, want int) {
	x.Helper()
	for _, pair := range [][2]api.Ptr{{a, b}, {b, a}} {
		if n, e := Alike(x.p, pair[0], pair[1]); n != want || e != api.OK {
			x.Errorf("%s: Alike: %d, error %d, not %d", what, n, e, want)
		}
	}
}

// addrs are the sectors of a list, so that it can be told.
func addrs(l []api.Ptr) []uint32 {
	var a []uint32
	for _, at := range l {
		a = append(a, at.Addr)
	}
	return a
}

// tree is a saved tree of so many keys from a number on, with great values.
func (x *disk) tree(from, count int) (*tree.Tree, api.Ptr) {
	x.Helper()
	t, e := tree.New(x.p)
	errs(x.T, "New", e, api.OK)
	for i := range count {
		t = x.put(t, fmt.Sprintf("key%05d", from+i), strings.Repeat("v", 80))
	}
	return x.save(t)
}

func (x *disk) put(t *tree.Tree, key, val string) *tree.Tree {
	x.Helper()
	t, e := t.Put(key, val)
	if e != api.OK {
		x.Fatalf("Put(%q): error %d", key, e)
	}
	return t
}

// save is what Save answers; what it wrote is known from then on.
func (x *disk) save(t *tree.Tree) (*tree.Tree, api.Ptr) {
	x.Helper()
	t, root, e := t.Save()
	if e != api.OK {
		x.Fatalf("Save: error %d", e)
	}
	x.learn(root)
	return t, root
}

// learn has the kids of a tree's nodes be known.
func (x *disk) learn(at api.Ptr) {
	x.Helper()
	if _, known := x.kids[at]; known || at.Addr == 0 {
		return
	}
	n, e := x.p.Read(at)
	if e != api.OK {
		x.Fatalf("Read: error %d", e)
	}
	x.kids[at] = n.Kids
	for _, kid := range n.Kids {
		x.learn(kid)
	}
}

// dir is a directory's root, of datasets.
func (x *disk) dir(sets ...api.Set) api.Ptr {
	x.Helper()
	var pairs []api.KV
	for _, s := range sets {
		kv, e := dir.Put(s)
		errs(x.T, "dir.Put", e, api.OK)
		pairs = append(pairs, kv)
	}
	return x.pairs(pairs...)
}

// pairs is a saved tree's root, of any keys and values.
func (x *disk) pairs(pairs ...api.KV) api.Ptr {
	x.Helper()
	t, e := tree.New(x.p)
	errs(x.T, "New", e, api.OK)
	for _, kv := range pairs {
		t = x.put(t, kv.K, kv.V)
	}
	_, root := x.save(t)
	return root
}

// some is a pointer that may be, to no node.
func some(addr uint32) api.Ptr {
	return api.Ptr{Addr: addr, Birth: 1, Sum: sha256.Sum256([]byte{byte(addr)})}
}
