package walk

import (
	"math/rand"
	"slices"
	"testing"

	"banyan/api"
)

// A web is what each node leads to, by numbers from 1 on: no device can be had whose nodes lead to themselves, since each has the sum of its kids. One that isn't in it can't be read.
type web map[uint32][]uint32

func (w web) walker() *walker {
	return newWalker(func(at api.Ptr) ([]api.Ptr, api.Errno) {
		kids, there := w[at.Addr]
		if !there {
			return nil, api.ErrSum
		}
		var l []api.Ptr
		for _, kid := range kids {
			l = append(l, api.Ptr{Addr: kid})
		}
		return l, api.OK
	})
}

// met are all numbers that one leads to, itself only if it does.
func (w web) met(at uint32, met []uint32) []uint32 {
	for _, kid := range w[at] {
		if !slices.Contains(met, kid) {
			met = w.met(kid, append(met, kid))
		}
	}
	return met
}

// err is, told plainly, the error of a tree.
func (w web) err(root uint32) api.Errno {
	all := append(w.met(root, nil), root)
	err := api.OK
	for _, at := range all {
		if _, there := w[at]; !there {
			return api.ErrSum
		}
		if slices.Contains(w.met(at, nil), at) {
			err = api.ErrForm
		}
	}
	return err
}

// P16.1: a pointer that is met within its own tree: ErrForm, but behind the error of any node that can't be read; one that is met twice beside itself is none.
func TestLoops(t *testing.T) {
	for what, c := range map[string]struct {
		w    web
		want api.Errno
	}{
		"one":                          {web{1: {}}, api.OK},
		"of itself":                    {web{1: {1}}, api.ErrForm},
		"of itself, behind others":     {web{1: {2, 3, 1}, 2: {}, 3: {}}, api.ErrForm},
		"a kid of itself":              {web{1: {2, 3}, 2: {2}, 3: {}}, api.ErrForm},
		"two":                          {web{1: {2}, 2: {1}}, api.ErrForm},
		"far":                          {web{1: {2, 5}, 2: {3}, 3: {4}, 4: {2}, 5: {}}, api.ErrForm},
		"to the root":                  {web{1: {2}, 2: {3}, 3: {4}, 4: {1}}, api.ErrForm},
		"of the last":                  {web{1: {2, 3}, 2: {}, 3: {4}, 4: {3}}, api.ErrForm},
		"beside":                       {web{1: {2, 3}, 2: {4}, 3: {4}, 4: {}}, api.OK},
		"twice":                        {web{1: {2, 2}, 2: {3, 3}, 3: {}}, api.OK},
		"later below":                  {web{1: {3, 2}, 2: {3}, 3: {}}, api.OK},
		"below, and then":              {web{1: {2, 3}, 2: {3}, 3: {}}, api.OK},
		"unread":                       {web{1: {2}}, api.ErrSum},
		"a loop ahead of unread":       {web{1: {1, 2}}, api.ErrSum},
		"a loop behind unread":         {web{1: {2, 1}}, api.ErrSum},
		"a far loop ahead of unread":   {web{1: {2, 4}, 2: {3}, 3: {2}, 4: {5}}, api.ErrSum},
		"unread within a loop":         {web{1: {2}, 2: {1, 3}}, api.ErrSum},
		"a loop of what was met ahead": {web{1: {2, 3}, 2: {}, 3: {2, 4}, 4: {2, 3}}, api.ErrForm},
	} {
		w := c.w.walker()
		errs(t, what, w.tree(api.Ptr{Addr: 1}), c.want)
		errs(t, what+", told plainly", c.w.err(1), c.want)
	}
}

// P16.1: webs by chance, beside what is told plainly; each tree that is gone down behind others, too.
func TestLoopsByChance(t *testing.T) {
	r := rand.New(rand.NewSource(1))
	seen := map[api.Errno]int{}
	for range 30000 {
		w := web{}
		count := uint32(1 + r.Intn(9))
		for at := uint32(1); at <= count; at++ {
			w[at] = nil
			for range r.Intn(3) {
				kid := 1 + uint32(r.Intn(int(count)))
				if r.Intn(4) > 0 {
					kid = at + uint32(r.Intn(int(count-at)+1))
				}
				w[at] = append(w[at], kid)
			}
		}
		if r.Intn(4) == 0 {
			delete(w, 1+uint32(r.Intn(int(count))))
		}
		all := w.walker()
		for root := uint32(1); root <= count; root++ {
			want := w.err(root)
			seen[want]++
			errs(t, "alone", w.walker().tree(api.Ptr{Addr: root}), want)
			got := all.tree(api.Ptr{Addr: root})
			errs(t, "behind others", got, want)
			if got != api.OK {
				break
			}
		}
	}
	for _, e := range []api.Errno{api.OK, api.ErrForm, api.ErrSum} {
		if seen[e] < 1000 {
			t.Errorf("error %d was met %d times", e, seen[e])
		}
	}
}

// P16.1: each node is asked for its kids but once, however many trees lead to it.
func TestAskedOnce(t *testing.T) {
	asked := map[api.Ptr]int{}
	w := newWalker(func(at api.Ptr) ([]api.Ptr, api.Errno) {
		asked[at]++
		if at.Addr == 1 {
			return nil, api.OK
		}
		return []api.Ptr{{Addr: at.Addr - 1}, {Addr: at.Addr - 1}}, api.OK
	})
	for _, root := range []uint32{5, 9, 3, 0, 9} {
		errs(t, "tree", w.tree(api.Ptr{Addr: root}), api.OK)
	}
	for at := uint32(1); at <= 9; at++ {
		if asked[api.Ptr{Addr: at}] != 1 {
			t.Errorf("%d was asked %d times", at, asked[api.Ptr{Addr: at}])
		}
	}
	if len(asked) != 9 {
		t.Errorf("%d were asked", len(asked))
	}
}
