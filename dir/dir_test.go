package dir

import (
	"bytes"
	"math"
	"math/rand"
	"slices"
	"strings"
	"testing"

	"banyan/api"
)

// root is a pointer that may be, another for each number from 2 to 4095.
func root(addr uint32) api.Ptr {
	p := api.Ptr{Addr: addr, Birth: uint64(addr)*0x0102030405 + 1}
	for i := range p.Sum {
		p.Sum[i] = byte(int(addr) + i + 1)
	}
	return p
}

// of is so many bytes of a text.
func of(size int) string { return strings.Repeat("x", size) }

// errs tells if an error is that one.
func errs(t *testing.T, what string, got, want api.Errno) {
	t.Helper()
	if got != want {
		t.Errorf("%s: error %d, not %d", what, got, want)
	}
}

// named is a dataset, and what it is.
type named struct {
	what string
	s    api.Set
}

// good are datasets that may be, at all edges.
func good() []named {
	return []named{
		{"a name", api.Set{Name: "a"}},
		{"the longest name", api.Set{Name: of(32)}},
		{"a name of a nought", api.Set{Name: "\x00"}},
		{"a name that is no UTF-8", api.Set{Name: "\xff\x80"}},
		{"a name of 32 bytes, of fewer runes", api.Set{Name: strings.Repeat("é", 16)}},
		{"a clone", api.Set{Name: "a", From: "b"}},
		{"a clone of the longest", api.Set{Name: "a", From: of(32)}},
		{"a clone of its own name", api.Set{Name: "a", From: "a"}},
		{"a clone of bytes", api.Set{Name: "a", From: "\xff\x00\x80"}},
		{"a snapshot", api.Set{Name: "a", From: "b", Snap: true}},
		{"a snapshot of its own name", api.Set{Name: "a", From: "a", Snap: true}},
		{"the longest snapshot", api.Set{Name: of(32), From: of(32), Snap: true, Root: root(4095)}},
		{"the first sector", api.Set{Name: "a", Root: root(2)}},
		{"the last sector", api.Set{Name: "a", Root: root(4095)}},
		{"the first birth", api.Set{Name: "a", Root: api.Ptr{Addr: 2, Birth: 1}}},
		{"the last birth", api.Set{Name: "a", From: "b", Snap: true, Root: api.Ptr{Addr: 256, Birth: math.MaxUint64, Sum: api.Hash{31: 1}}}},
	}
}

// bad are datasets that may not be, each fault by itself, and all at once.
func bad() []named {
	return []named{
		{"nothing", api.Set{}},
		{"no name", api.Set{From: "b", Snap: true, Root: root(2)}},
		{"too long a name", api.Set{Name: of(33)}},
		{"far too long a name", api.Set{Name: of(1000)}},
		{"a name of 32 runes, of more bytes", api.Set{Name: of(31) + "é"}},
		{"a clone of too long a one", api.Set{Name: "a", From: of(33)}},
		{"a clone of far too long a one", api.Set{Name: "a", From: of(256)}},
		{"a snapshot of too long a one", api.Set{Name: "a", From: of(33), Snap: true}},
		{"a snapshot of nothing", api.Set{Name: "a", Snap: true}},
		{"a snapshot of nothing, that has a root", api.Set{Name: "a", Snap: true, Root: root(2)}},
		{"sector 0, of a birth", api.Set{Name: "a", Root: api.Ptr{Birth: 1}}},
		{"sector 0, of a sum", api.Set{Name: "a", Root: api.Ptr{Sum: api.Hash{31: 1}}}},
		{"sector 1", api.Set{Name: "a", Root: root(1)}},
		{"the sector behind all", api.Set{Name: "a", Root: root(4096)}},
		{"the highest sector", api.Set{Name: "a", Root: root(math.MaxUint32)}},
		{"no birth", api.Set{Name: "a", From: "b", Snap: true, Root: api.Ptr{Addr: 2, Sum: api.Hash{1}}}},
		{"all faults", api.Set{From: of(33), Snap: true, Root: api.Ptr{Addr: 1}}},
	}
}

// ofSet is a dataset's value, told plainly.
func ofSet(s api.Set) string {
	b := []byte{1, byte(len(s.From))}
	if s.Snap {
		b[0] = 2
	}
	b = append(b, s.From...)
	for i := 3; i >= 0; i-- {
		b = append(b, byte(s.Root.Addr>>(8*i)))
	}
	for i := 7; i >= 0; i-- {
		b = append(b, byte(s.Root.Birth>>(8*i)))
	}
	return string(append(b, s.Root.Sum[:]...))
}

// P15.1
func TestCheck(t *testing.T) {
	for _, c := range good() {
		errs(t, c.what, Check(c.s), api.OK)
	}
	for _, c := range bad() {
		errs(t, c.what, Check(c.s), api.ErrForm)
	}
}

// P15.1: each count of bytes of both texts, of both kinds.
func TestCheckOfEachLength(t *testing.T) {
	for name := range 70 {
		for from := range 70 {
			for _, snap := range []bool{false, true} {
				want := api.OK
				if name < 1 || name > 32 || from > 32 || snap && from < 1 {
					want = api.ErrForm
				}
				if e := Check(api.Set{Name: of(name), From: of(from), Snap: snap, Root: root(9)}); e != want {
					t.Errorf("%d bytes, of %d bytes, a snapshot %t: error %d, not %d", name, from, snap, e, want)
				}
			}
		}
	}
}

// P15.1: lists that may be all there are.
func TestValidOfGood(t *testing.T) {
	for what, l := range map[string][]api.Set{
		"nil":                        nil,
		"empty":                      {},
		"one":                        {{Name: "a"}},
		"one with a root":            {{Name: "a", Root: root(7)}},
		"a name that another begins": {{Name: "a"}, {Name: "a\x00"}, {Name: "aa"}, {Name: "b"}},
		"by bytes":                   {{Name: "\x00"}, {Name: "B"}, {Name: "a"}, {Name: "\x7f"}, {Name: "\x80"}, {Name: "é"}, {Name: "\xff"}},
		"the longest":                {{Name: of(31)}, {Name: of(32)}, {Name: of(31) + "y", From: of(32), Snap: true}},
		"a snapshot ahead":           {{Name: "a", From: "b", Snap: true}, {Name: "b"}},
		"a snapshot behind":          {{Name: "a"}, {Name: "b", From: "a", Snap: true}},
		"many of one":                {{Name: "a", From: "c", Snap: true}, {Name: "b", From: "c", Snap: true}, {Name: "c"}, {Name: "d", From: "c", Snap: true}},
		"many clones of one":         {{Name: "a", From: "c"}, {Name: "b", From: "c"}, {Name: "c", From: "m", Snap: true}, {Name: "d", From: "c"}, {Name: "m"}},
		"a snapshot of a clone":      {{Name: "a"}, {Name: "b", From: "a", Snap: true}, {Name: "c", From: "b"}, {Name: "d", From: "c", Snap: true}},
		"two that are of each other": {{Name: "a", From: "b"}, {Name: "b", From: "a", Snap: true}},
		"roots that are alike":       {{Name: "a", Root: root(5)}, {Name: "b", From: "a", Snap: true, Root: root(5)}, {Name: "c", Root: root(6)}},
	} {
		errs(t, what, Valid(l), api.OK)
	}
}

// badLists are lists that may not be all there are, but that each of them may be.
func badLists() map[string][]api.Set {
	return map[string][]api.Set{
		"falling":                      {{Name: "b"}, {Name: "a"}},
		"falling at the end":           {{Name: "a"}, {Name: "c"}, {Name: "b"}},
		"falling at the start":         {{Name: "b"}, {Name: "a"}, {Name: "c"}},
		"alike":                        {{Name: "a"}, {Name: "a"}},
		"alike, at the end":            {{Name: "a"}, {Name: "b"}, {Name: "b"}},
		"alike by name":                {{Name: "a", Root: root(2)}, {Name: "a", Root: root(3)}},
		"longer ahead":                 {{Name: "aa"}, {Name: "a"}},
		"falling by bytes":             {{Name: "\x80"}, {Name: "\x7f"}},
		"by letters":                   {{Name: "a"}, {Name: "B"}},
		"a snapshot of what isn't":     {{Name: "a", From: "b", Snap: true}},
		"a snapshot of itself":         {{Name: "a", From: "a", Snap: true}},
		"a snapshot of a snapshot":     {{Name: "a"}, {Name: "b", From: "a", Snap: true}, {Name: "c", From: "b", Snap: true}},
		"a snapshot of one ahead":      {{Name: "a", From: "b", Snap: true}, {Name: "b", From: "c", Snap: true}, {Name: "c"}},
		"a clone of what isn't":        {{Name: "a", From: "b"}},
		"a clone of itself":            {{Name: "a", From: "a"}},
		"a clone of no snapshot":       {{Name: "a"}, {Name: "b", From: "a"}},
		"a clone of a clone":           {{Name: "a"}, {Name: "b", From: "a", Snap: true}, {Name: "c", From: "b"}, {Name: "d", From: "c"}},
		"two clones of each other":     {{Name: "a", From: "b"}, {Name: "b", From: "a"}},
		"two snapshots of each other":  {{Name: "a", From: "b", Snap: true}, {Name: "b", From: "a", Snap: true}},
		"of a part of a name":          {{Name: "aa"}, {Name: "b", From: "a", Snap: true}},
		"of more than a name":          {{Name: "a"}, {Name: "b", From: "aa", Snap: true}},
		"of another letter":            {{Name: "a"}, {Name: "b", From: "A", Snap: true}},
		"the last one's origin absent": {{Name: "a"}, {Name: "b"}, {Name: "c"}, {Name: "d", From: "e", Snap: true}},
	}
}

// P15.1
func TestValidOfBad(t *testing.T) {
	for what, l := range badLists() {
		for _, s := range l {
			errs(t, what, Check(s), api.OK)
		}
		errs(t, what, Valid(l), api.ErrForm)
	}
}

// P15.1: one that may not be, at each place among others.
func TestValidOfOneThatMayNotBe(t *testing.T) {
	for _, c := range bad() {
		for place := range 4 {
			l := []api.Set{{Name: "0"}, {Name: "1", From: "0", Snap: true}, {Name: "zz"}}
			l = slices.Insert(l, place, c.s)
			errs(t, c.what, Valid(l), api.ErrForm)
		}
	}
}

// mayBeAll says whether some may be all there are, told plainly.
func mayBeAll(l []api.Set) bool {
	snaps, plain := map[string]bool{}, map[string]bool{"": true}
	for i, s := range l {
		if s.Snap {
			snaps[s.Name] = true
		} else {
			plain[s.Name] = true
		}
		if i > 0 && s.Name <= l[i-1].Name {
			return false
		}
	}
	for _, s := range l {
		if Check(s) != api.OK || s.Snap && !plain[s.From] || !s.Snap && s.From != "" && !snaps[s.From] {
			return false
		}
	}
	return true
}

// P15.1: all lists of a few names, whatever they are of.
func TestValidOfAll(t *testing.T) {
	var kinds []api.Set
	for _, name := range []string{"a", "b", "c"} {
		for _, from := range []string{"", "a", "b", "c", "d"} {
			kinds = append(kinds, api.Set{Name: name, From: from}, api.Set{Name: name, From: from, Snap: true})
		}
	}
	good := 0
	try := func(l ...api.Set) {
		want := api.ErrForm
		if mayBeAll(l) {
			want = api.OK
			good++
		}
		if e := Valid(l); e != want {
			t.Errorf("%v: error %d, not %d", l, e, want)
		}
	}
	for _, x := range kinds {
		try(x)
		for _, y := range kinds {
			try(x, y)
			for _, z := range kinds {
				try(x, y, z)
			}
		}
	}
	if good < 20 {
		t.Errorf("only %d lists may be", good)
	}
}

// P15.1: the bytes, as the document tells them.
func TestPut(t *testing.T) {
	for _, c := range good() {
		kv, e := Put(c.s)
		errs(t, c.what, e, api.OK)
		if want := (api.KV{K: c.s.Name, V: ofSet(c.s)}); kv != want {
			t.Errorf("%s: %q, not %q", c.what, kv, want)
		}
	}
	kv, e := Put(api.Set{Name: "k", From: "xyz", Snap: true, Root: api.Ptr{Addr: 0x102, Birth: 0x304, Sum: api.Hash{5, 31: 6}}})
	want := "\x02\x03xyz\x00\x00\x01\x02\x00\x00\x00\x00\x00\x00\x03\x04\x05" + strings.Repeat("\x00", 30) + "\x06"
	if e != api.OK || kv != (api.KV{K: "k", V: want}) {
		t.Errorf("error %d, %q", e, kv)
	}
}

// P15.1: a key and a value always have room in a tree.
func TestPutHasRoom(t *testing.T) {
	for _, c := range good() {
		if kv, _ := Put(c.s); len(kv.K) < 1 || len(kv.K) > api.MaxKey || len(kv.V) > api.MaxVal {
			t.Errorf("%s: %d and %d bytes", c.what, len(kv.K), len(kv.V))
		}
	}
}

// P15.1
func TestPutOfBad(t *testing.T) {
	for _, c := range bad() {
		kv, e := Put(c.s)
		errs(t, c.what, e, api.ErrForm)
		if kv != (api.KV{}) {
			t.Errorf("%s: %q beside an error", c.what, kv)
		}
	}
}

// is and isNot tell if a key and a value are a dataset's, or none's.
func is(t *testing.T, what string, kv api.KV, want api.Set) {
	t.Helper()
	if s, e := Get(kv); s != want || e != api.OK {
		t.Errorf("%s: %v, error %d, not %v", what, s, e, want)
	}
}

func isNot(t *testing.T, what string, kv api.KV) {
	t.Helper()
	if s, e := Get(kv); s != (api.Set{}) || e != api.ErrForm {
		t.Errorf("%s: %v, error %d, of %q", what, s, e, kv)
	}
}

// P15.1: what is put is got.
func TestGet(t *testing.T) {
	for _, c := range good() {
		is(t, c.what, api.KV{K: c.s.Name, V: ofSet(c.s)}, c.s)
	}
	c := rand.New(rand.NewSource(15))
	for range 1000 {
		s := api.Set{Name: of(1 + c.Intn(32)), From: of(1 + c.Intn(32)), Snap: c.Intn(2) > 0, Root: root(2 + uint32(c.Intn(4094)))}
		kv, e := Put(s)
		errs(t, "Put", e, api.OK)
		is(t, "by chance", kv, s)
	}
}

// P15.1: bytes that would be of a dataset that may not be.
func TestGetOfBad(t *testing.T) {
	for _, c := range bad() {
		isNot(t, c.what, api.KV{K: c.s.Name, V: ofSet(c.s)})
	}
	isNot(t, "nothing", api.KV{})
	isNot(t, "no value", api.KV{K: "a"})
}

// P15.1: any count of bytes but its own.
func TestGetOfEachCount(t *testing.T) {
	for _, c := range good() {
		v := ofSet(c.s)
		for size := range len(v) {
			isNot(t, c.what, api.KV{K: c.s.Name, V: v[:size]})
			isNot(t, c.what, api.KV{K: c.s.Name, V: v[len(v)-size:]})
		}
		for _, more := range []string{"\x00", "\x01", of(44), strings.Repeat("\x00", 512)} {
			isNot(t, c.what, api.KV{K: c.s.Name, V: v + more})
		}
		isNot(t, c.what, api.KV{K: c.s.Name, V: "\x00" + v})
	}
}

// P15.1: each byte any other; what may still be is the dataset of just these bytes.
func TestGetOfTurnedBytes(t *testing.T) {
	for _, c := range good() {
		v := []byte(ofSet(c.s))
		for place := range v {
			was := v[place]
			for x := range 256 {
				v[place] = byte(x)
				kv := api.KV{K: c.s.Name, V: string(v)}
				s, e := Get(kv)
				if e == api.OK && (Check(s) != api.OK || s.Name != kv.K || ofSet(s) != kv.V) || e != api.OK && (s != api.Set{} || e != api.ErrForm) {
					t.Fatalf("%s: byte %d is %d: %v, error %d", c.what, place, x, s, e)
				}
				bound := place == 0 && x != 1 && (x != 2 || c.s.From == "") || place == 1 && x != int(was)
				if bound && e == api.OK {
					t.Errorf("%s: byte %d is %d: it may be", c.what, place, x)
				}
				sum := place >= len(v)-32 && c.s.Root.Addr > 0
				if sum && e != api.OK {
					t.Errorf("%s: byte %d is %d: error %d", c.what, place, x, e)
				}
			}
			v[place] = was
		}
	}
}

// P15.1: the first byte alone tells the kind, and a snapshot is of something.
func TestGetOfKinds(t *testing.T) {
	behind := "\x01b" + strings.Repeat("\x00", 44)
	is(t, "1", api.KV{K: "a", V: "\x01" + behind}, api.Set{Name: "a", From: "b"})
	is(t, "2", api.KV{K: "a", V: "\x02" + behind}, api.Set{Name: "a", From: "b", Snap: true})
	isNot(t, "0", api.KV{K: "a", V: "\x00" + behind})
	isNot(t, "3", api.KV{K: "a", V: "\x03" + behind})
	isNot(t, "a snapshot of nothing", api.KV{K: "a", V: "\x02\x00" + strings.Repeat("\x00", 44)})
}

// P15.1: keys that may be a name, and keys that may not.
func TestGetOfKeys(t *testing.T) {
	v := ofSet(api.Set{Name: "a", From: "b", Snap: true, Root: root(3)})
	for size := range 70 {
		if size < 1 || size > 32 {
			isNot(t, "a key", api.KV{K: of(size), V: v})
		} else {
			is(t, "a key", api.KV{K: of(size), V: v}, api.Set{Name: of(size), From: "b", Snap: true, Root: root(3)})
		}
	}
}

// P15.1: bytes by chance are ErrForm, or what Put answers of what they are.
func TestGetOfChance(t *testing.T) {
	c := rand.New(rand.NewSource(16))
	met := 0
	for range 20000 {
		b := []byte(ofSet(good()[c.Intn(len(good()))].s))
		for range c.Intn(4) {
			i := c.Intn(len(b))
			switch c.Intn(3) {
			case 0:
				b[i] = byte(c.Intn(256) >> c.Intn(8))
			case 1:
				b = slices.Insert(b, i, byte(c.Intn(256)>>c.Intn(8)))
			case 2:
				b = slices.Delete(b, i, i+1)
			}
		}
		kv := api.KV{K: of(c.Intn(34)), V: string(b)}
		s, e := Get(kv)
		if e != api.OK {
			isNot(t, "by chance", kv)
			continue
		}
		met++
		if Check(s) != api.OK || s.Name != kv.K || ofSet(s) != kv.V {
			t.Errorf("%v of %q", s, kv)
		}
	}
	if met < 2000 || met > 18000 {
		t.Errorf("%d may be", met)
	}
}

// P1: values that are far too long.
func TestGetOfMany(t *testing.T) {
	long := string(bytes.Repeat([]byte{1}, 1<<20))
	isNot(t, "a long value", api.KV{K: "a", V: long})
	isNot(t, "a long key", api.KV{K: long, V: ofSet(api.Set{Name: "a"})})
}
