package dir

import (
	"math/rand"
	"slices"
	"strings"
	"testing"

	"banyan/api"
)

// family are some that may be all there are: a, its snapshot b, its clone c, c's snapshot d, and e by itself.
func family() []api.Set {
	return []api.Set{
		{Name: "a", Root: root(2)},
		{Name: "b", From: "a", Snap: true, Root: root(3)},
		{Name: "c", From: "b", Root: root(4)},
		{Name: "d", From: "c", Snap: true, Root: root(5)},
		{Name: "e"},
	}
}

// A call is one of those that make a list of another; of those that name but one, the second is it.
type call struct {
	what string
	do   func(l []api.Set, x, y string) ([]api.Set, api.Errno)
}

func calls() []call {
	return []call{
		{"Create", func(l []api.Set, _, y string) ([]api.Set, api.Errno) { return Create(l, y) }},
		{"Snap", Snap},
		{"Clone", Clone},
		{"Destroy", func(l []api.Set, _, y string) ([]api.Set, api.Errno) { return Destroy(l, y) }},
		{"Rename", Rename},
	}
}

// gives tells if a list is that one, and refuses if it is none, beside that error.
func gives(t *testing.T, what string, l []api.Set, e api.Errno, want ...api.Set) {
	t.Helper()
	if e != api.OK || !slices.Equal(l, want) {
		t.Errorf("%s: error %d, %v, not %v", what, e, l, want)
	}
	errs(t, what+", Valid", Valid(l), api.OK)
}

func refuses(t *testing.T, what string, l []api.Set, e, want api.Errno) {
	t.Helper()
	if e != want || len(l) != 0 {
		t.Errorf("%s: error %d, not %d, and beside it %v", what, e, want, l)
	}
}

// P15.2, P15.3: the chapter's example.
func TestExample(t *testing.T) {
	l, e := Create(nil, "a")
	gives(t, "Create a", l, e, api.Set{Name: "a"})
	l, e = Snap(l, "a", "b")
	gives(t, "Snap a b", l, e, api.Set{Name: "a"}, api.Set{Name: "b", From: "a", Snap: true})
	l, e = Clone(l, "b", "c")
	gives(t, "Clone b c", l, e, api.Set{Name: "a"}, api.Set{Name: "b", From: "a", Snap: true}, api.Set{Name: "c", From: "b"})
	none, e := Destroy(l, "b")
	refuses(t, "Destroy b", none, e, api.ErrUsed)
	none, e = Destroy(l, "a")
	refuses(t, "Destroy a", none, e, api.ErrUsed)
	l, e = Destroy(l, "c")
	gives(t, "Destroy c", l, e, api.Set{Name: "a"}, api.Set{Name: "b", From: "a", Snap: true})
	l, e = Destroy(l, "b")
	gives(t, "Destroy b", l, e, api.Set{Name: "a"})
	l, e = Destroy(l, "a")
	gives(t, "Destroy a", l, e)
}

// P15.2
func TestFind(t *testing.T) {
	for _, s := range family() {
		if got, e := Find(family(), s.Name); got != s || e != api.OK {
			t.Errorf("Find(%q): %v, error %d", s.Name, got, e)
		}
	}
	for _, name := range []string{"", "A", "aa", "a\x00", "bb", "`", "f", "\xff", of(32), of(33), of(1000)} {
		for _, l := range [][]api.Set{family(), nil, {}} {
			if got, e := Find(l, name); got != (api.Set{}) || e != api.ErrNone {
				t.Errorf("Find(%q): %v, error %d", name, got, e)
			}
		}
	}
}

// P15.2: Valid's error comes first, whatever else is wrong.
func TestOfBadLists(t *testing.T) {
	lists := badLists()
	for _, c := range bad() {
		lists[c.what] = []api.Set{c.s}
	}
	for what, l := range lists {
		for _, x := range []string{"", "a", "b", "z", of(33)} {
			if s, e := Find(l, x); s != (api.Set{}) || e != api.ErrForm {
				t.Errorf("Find(%q) of %s: %v, error %d", x, what, s, e)
			}
			for _, y := range []string{"", "a", "b", "z", of(33)} {
				for _, c := range calls() {
					got, e := c.do(l, x, y)
					refuses(t, c.what+" of "+what, got, e, api.ErrForm)
				}
			}
		}
	}
}

// P15.2: of a name that must be new, each way in which it may not be.
func TestNamesThatMustBeNew(t *testing.T) {
	for _, c := range []call{calls()[0], calls()[1], calls()[4]} {
		for name, want := range map[string]api.Errno{"": api.ErrArg, of(33): api.ErrArg, of(500): api.ErrArg, of(31) + "é": api.ErrArg,
			"a": api.ErrThere, "b": api.ErrThere, "c": api.ErrThere, "d": api.ErrThere, "e": api.ErrThere} {
			got, e := c.do(family(), "a", name)
			refuses(t, c.what, got, e, want)
			got, e = Clone(family(), "b", name)
			refuses(t, "Clone", got, e, want)
		}
		for _, name := range []string{"f", "A", "aa", "\x00", "\xff", " ", of(32), strings.Repeat("\xff", 32)} {
			got, e := c.do(family(), "a", name)
			if e != api.OK || Valid(got) != api.OK {
				t.Errorf("%s of %q: error %d, %v", c.what, name, e, got)
			}
		}
	}
}

// P15.2: a new one is of nothing, and stands where its name belongs.
func TestCreate(t *testing.T) {
	for place, name := range []string{"A", "aa", "bb", "cc", "dd", "f"} {
		l, e := Create(family(), name)
		gives(t, "Create", l, e, slices.Insert(family(), place, api.Set{Name: name})...)
	}
	l, e := Create([]api.Set{}, of(32))
	gives(t, "Create of the longest", l, e, api.Set{Name: of(32)})
	l, e = Create([]api.Set{{Name: "a\x80"}}, "a\x7f")
	gives(t, "Create by bytes", l, e, api.Set{Name: "a\x7f"}, api.Set{Name: "a\x80"})
}

// P15.2: a snapshot has its origin's root; of a clone it may be, too.
func TestSnap(t *testing.T) {
	for place, name := range []string{"A", "aa", "bb", "cc", "dd", "f"} {
		for _, of := range []int{0, 2, 4} {
			origin := family()[of]
			l, e := Snap(family(), origin.Name, name)
			gives(t, "Snap", l, e, slices.Insert(family(), place, api.Set{Name: name, From: origin.Name, Snap: true, Root: origin.Root})...)
		}
	}
}

// P15.2: errors of Snap, in their order.
func TestSnapErrors(t *testing.T) {
	for i, c := range []struct {
		of, name string
		want     api.Errno
	}{
		{"z", "f", api.ErrNone},
		{"z", "", api.ErrNone},
		{"z", "a", api.ErrNone},
		{"", "f", api.ErrNone},
		{of(33), "", api.ErrNone},
		{"b", "f", api.ErrRead},
		{"d", "", api.ErrRead},
		{"b", of(33), api.ErrRead},
		{"b", "a", api.ErrRead},
		{"d", "d", api.ErrRead},
		{"a", "", api.ErrArg},
		{"c", of(33), api.ErrArg},
		{"a", "a", api.ErrThere},
		{"a", "e", api.ErrThere},
	} {
		l, e := Snap(family(), c.of, c.name)
		if e != c.want || len(l) != 0 {
			t.Errorf("%d: error %d, not %d, and beside it %v", i, e, c.want, l)
		}
	}
}

// P15.2: a clone has its snapshot's root, and is no snapshot.
func TestClone(t *testing.T) {
	for place, name := range []string{"A", "aa", "bb", "cc", "dd", "f"} {
		for _, of := range []int{1, 3} {
			origin := family()[of]
			l, e := Clone(family(), origin.Name, name)
			gives(t, "Clone", l, e, slices.Insert(family(), place, api.Set{Name: name, From: origin.Name, Root: origin.Root})...)
		}
	}
}

// P15.2: errors of Clone, in their order.
func TestCloneErrors(t *testing.T) {
	for i, c := range []struct {
		snap, name string
		want       api.Errno
	}{
		{"z", "f", api.ErrNone},
		{"z", "", api.ErrNone},
		{"", "a", api.ErrNone},
		{of(33), of(33), api.ErrNone},
		{"a", "f", api.ErrArg},
		{"c", "f", api.ErrArg},
		{"e", "a", api.ErrArg},
		{"a", "", api.ErrArg},
		{"b", "", api.ErrArg},
		{"d", of(33), api.ErrArg},
		{"b", "a", api.ErrThere},
		{"b", "b", api.ErrThere},
	} {
		l, e := Clone(family(), c.snap, c.name)
		if e != c.want || len(l) != 0 {
			t.Errorf("%d: error %d, not %d, and beside it %v", i, e, c.want, l)
		}
	}
}

// P15.2: just what is no other one's From goes.
func TestDestroy(t *testing.T) {
	for i, want := range []api.Errno{api.ErrUsed, api.ErrUsed, api.ErrUsed, api.OK, api.OK} {
		l, e := Destroy(family(), family()[i].Name)
		if want != api.OK {
			refuses(t, "Destroy", l, e, want)
			continue
		}
		gives(t, "Destroy", l, e, slices.Delete(family(), i, i+1)...)
	}
	for _, name := range []string{"", "A", "aa", "f", of(32), of(33)} {
		for _, l := range [][]api.Set{family(), nil, {}} {
			l, e := Destroy(l, name)
			refuses(t, "Destroy", l, e, api.ErrNone)
		}
	}
}

// P15.2: one by itself, at each place among others, goes; each that many are of stays till the last of these goes.
func TestDestroyOfMany(t *testing.T) {
	for _, name := range []string{"a", "b", "c"} {
		l := []api.Set{{Name: "a"}, {Name: "b"}, {Name: "c"}}
		want := slices.DeleteFunc(slices.Clone(l), func(s api.Set) bool { return s.Name == name })
		l, e := Destroy(l, name)
		gives(t, "Destroy "+name, l, e, want...)
	}
	l := []api.Set{{Name: "a", From: "c", Snap: true}, {Name: "b", From: "c", Snap: true}, {Name: "c"}, {Name: "d", From: "c", Snap: true}}
	for _, name := range []string{"b", "d", "a"} {
		none, e := Destroy(l, "c")
		refuses(t, "Destroy c", none, e, api.ErrUsed)
		l, e = Destroy(l, name)
		errs(t, "Destroy "+name, e, api.OK)
	}
	l, e := Destroy(l, "c")
	gives(t, "Destroy c", l, e)
}

// P15.2, P15.3: two that are of each other are used, both.
func TestOfEachOther(t *testing.T) {
	l := []api.Set{{Name: "a", From: "b", Root: root(8)}, {Name: "b", From: "a", Snap: true}}
	for _, name := range []string{"a", "b"} {
		got, e := Destroy(l, name)
		refuses(t, "Destroy", got, e, api.ErrUsed)
	}
	got, e := Rename(l, "a", "c")
	gives(t, "Rename a c", got, e, api.Set{Name: "b", From: "c", Snap: true}, api.Set{Name: "c", From: "b", Root: root(8)})
}

// P15.2: all that is of one has its new name as From, and it stands where that belongs.
func TestRename(t *testing.T) {
	b, c, d, e := family()[1], family()[2], family()[3], family()[4]
	a := family()[0]
	a.Name, b.From = "cc", "cc"
	l, err := Rename(family(), "a", "cc")
	gives(t, "Rename a cc", l, err, b, c, a, d, e)

	a, b = family()[0], family()[1]
	b.Name, c.From = "z", "z"
	l, err = Rename(family(), "b", "z")
	gives(t, "Rename b z", l, err, a, c, d, e, b)

	b, c = family()[1], family()[2]
	c.Name, d.From = "A", "A"
	l, err = Rename(family(), "c", "A")
	gives(t, "Rename c A", l, err, c, a, b, d, e)

	c, d = family()[2], family()[3]
	e.Name = "bb"
	l, err = Rename(family(), "e", "bb")
	gives(t, "Rename e bb", l, err, a, b, e, c, d)

	e = family()[4]
	d.Name = "dd"
	l, err = Rename(family(), "d", "dd")
	gives(t, "Rename d dd", l, err, a, b, c, d, e)
}

// P15.2: each of those that are of one.
func TestRenameOfMany(t *testing.T) {
	l, e := Rename([]api.Set{{Name: "a", From: "c"}, {Name: "b", From: "c"}, {Name: "c", From: "m", Snap: true}, {Name: "d", From: "c"}, {Name: "m"}}, "c", of(32))
	gives(t, "Rename", l, e, api.Set{Name: "a", From: of(32)}, api.Set{Name: "b", From: of(32)}, api.Set{Name: "d", From: of(32)},
		api.Set{Name: "m"}, api.Set{Name: of(32), From: "m", Snap: true})
}

// P15.2: errors of Rename, in their order; its own name is there, too.
func TestRenameErrors(t *testing.T) {
	for i, c := range []struct {
		old, name string
		want      api.Errno
	}{
		{"z", "f", api.ErrNone},
		{"z", "", api.ErrNone},
		{"z", "a", api.ErrNone},
		{"", "", api.ErrNone},
		{of(33), of(33), api.ErrNone},
		{"a", "", api.ErrArg},
		{"b", of(33), api.ErrArg},
		{"a", "a", api.ErrThere},
		{"e", "e", api.ErrThere},
		{"a", "b", api.ErrThere},
		{"b", "a", api.ErrThere},
	} {
		l, e := Rename(family(), c.old, c.name)
		if e != c.want || len(l) != 0 {
			t.Errorf("%d: error %d, not %d, and beside it %v", i, e, c.want, l)
		}
	}
}

// Rule 4: what is handed in stays as it is, its spare room too, and shares nothing with what is answered.
func TestListsAreTheirOwn(t *testing.T) {
	spare := api.Set{Name: "spare", From: "room", Root: root(99)}
	for _, c := range calls() {
		for _, x := range []string{"a", "b", "c", "d", "e", "z"} {
			for _, y := range []string{"", "A", "a", "bb", "d", "e", "z"} {
				whole := append(family(), spare, spare, spare)
				l := whole[:len(family())]
				got, _ := c.do(l, x, y)
				for _, all := range [][]api.Set{got, got[:cap(got)]} {
					for i := range all {
						all[i] = api.Set{Name: "changed"}
					}
				}
				if !slices.Equal(whole, append(family(), spare, spare, spare)) {
					t.Fatalf("%s(%q, %q): %v", c.what, x, y, whole)
				}
			}
		}
	}
}

// A model is datasets by their names, that makes of them what the document says, step by step.
type model map[string]api.Set

// list are they, rising.
func (m model) list() []api.Set {
	var l []api.Set
	for _, s := range m {
		l = append(l, s)
	}
	slices.SortFunc(l, func(a, b api.Set) int { return strings.Compare(a.Name, b.Name) })
	return l
}

// fresh is the error of a name that must be new.
func (m model) fresh(name string) api.Errno {
	if name == "" || len(name) > 32 {
		return api.ErrArg
	}
	if _, there := m[name]; there {
		return api.ErrThere
	}
	return api.OK
}

// child makes one that is of x, which must be a snapshot, or not.
func (m model) child(x, y string, snap bool, wrong api.Errno) api.Errno {
	s, there := m[x]
	if !there {
		return api.ErrNone
	}
	if s.Snap == snap {
		return wrong
	}
	if e := m.fresh(y); e != api.OK {
		return e
	}
	m[y] = api.Set{Name: y, From: x, Snap: snap, Root: s.Root}
	return api.OK
}

func (m model) create(y string) api.Errno {
	e := m.fresh(y)
	if e == api.OK {
		m[y] = api.Set{Name: y}
	}
	return e
}

func (m model) destroy(y string) api.Errno {
	if _, there := m[y]; !there {
		return api.ErrNone
	}
	for _, s := range m {
		if s.From == y {
			return api.ErrUsed
		}
	}
	delete(m, y)
	return api.OK
}

func (m model) rename(x, y string) api.Errno {
	s, there := m[x]
	if !there {
		return api.ErrNone
	}
	if e := m.fresh(y); e != api.OK {
		return e
	}
	delete(m, x)
	s.Name = y
	m[y] = s
	for name, s := range m {
		if s.From == x {
			s.From = y
			m[name] = s
		}
	}
	return api.OK
}

func (m model) step(what, x, y string) api.Errno {
	switch what {
	case "Create":
		return m.create(y)
	case "Snap":
		return m.child(x, y, true, api.ErrRead)
	case "Clone":
		return m.child(x, y, false, api.ErrArg)
	case "Destroy":
		return m.destroy(y)
	}
	return m.rename(x, y)
}

// P15.2, P15.3: long runs by chance, each answer as a model's; what comes may be all there are, and is put and got.
func TestRunsByChance(t *testing.T) {
	names := []string{"", "a", "aa", "b", "b\x00", "B", "m", "\x80", "\xff", of(32), of(33), of(31)}
	c := rand.New(rand.NewSource(17))
	met := map[string]int{}
	for range 100 {
		m := model{}
		var l []api.Set
		for range 300 {
			do := calls()[c.Intn(5)]
			x, y := names[c.Intn(len(names))], names[c.Intn(len(names))]
			want := m.step(do.what, x, y)
			got, e := do.do(l, x, y)
			if e != want || e != api.OK && len(got) != 0 {
				t.Fatalf("%s(%q, %q) of %v: error %d, not %d, %v", do.what, x, y, l, e, want, got)
			}
			if e == api.OK {
				l = got
				met[do.what]++
			}
			// Where the roots are is another layer's: any may be.
			if len(l) > 0 {
				i := c.Intn(len(l))
				l[i].Root = root(2 + uint32(c.Intn(4094)))
				m[l[i].Name] = l[i]
			}
			if !slices.Equal(l, m.list()) || Valid(l) != api.OK {
				t.Fatalf("%s(%q, %q): %v, not %v", do.what, x, y, l, m.list())
			}
			for _, s := range l {
				kv, _ := Put(s)
				is(t, "by chance", kv, s)
			}
		}
	}
	for _, c := range calls() {
		if met[c.what] < 100 {
			t.Errorf("%s went well only %d times", c.what, met[c.what])
		}
	}
}

// P1: many datasets, each of the first one, or its snapshots.
func TestMany(t *testing.T) {
	const many = 20000
	l := []api.Set{{Name: "a"}}
	for i := range many {
		name := "b" + strings.Repeat("0", 5-len(digits(i))) + digits(i)
		l = append(l, api.Set{Name: name, From: "a", Snap: true, Root: root(2 + uint32(i%4094))})
	}
	errs(t, "Valid", Valid(l), api.OK)
	none, e := Destroy(l, "a")
	refuses(t, "Destroy", none, e, api.ErrUsed)
	got, e := Rename(l, "a", "z")
	if e != api.OK || len(got) != many+1 || got[many].Name != "z" {
		t.Fatalf("Rename: error %d, of %d", e, len(got))
	}
	for i, s := range got[:many] {
		if s != (api.Set{Name: l[i+1].Name, From: "z", Snap: true, Root: l[i+1].Root}) {
			t.Fatalf("%v", s)
		}
	}
}

// digits are a number's.
func digits(i int) string {
	if i < 10 {
		return string(rune('0' + i))
	}
	return digits(i/10) + digits(i%10)
}
