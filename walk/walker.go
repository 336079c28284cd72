package walk

import (
	"banyan/api"
	"banyan/pool"
	"banyan/ptr"
)

// A stage is how far a walker has come with a pointer.
type stage int

const (
	unmet  stage = iota
	within       // its own tree is being gone down
	behind       // all of its tree was gone down
)

// A kidsOf tells what a node leads to.
type kidsOf func(at api.Ptr) ([]api.Ptr, api.Errno)

// kidsIn tells it of a pool's nodes.
func kidsIn(p *pool.Pool) kidsOf {
	return func(at api.Ptr) ([]api.Ptr, api.Errno) {
		n, err := p.Read(at)
		return n.Kids, err
	}
}

// A walker goes down trees, one behind the other, and down no node twice: what it met in one tree without an error has
// none in the next one.
type walker struct {
	kids  kidsOf
	met   map[api.Ptr]stage
	list  []api.Ptr // what was met, in order
	loops bool      // a pointer was met within its own tree
}

func newWalker(kids kidsOf) *walker {
	return &walker{kids: kids, met: map[api.Ptr]stage{}}
}

// tree goes down a tree. Behind an error the walker is done.
func (w *walker) tree(root api.Ptr) api.Errno {
	if ptr.Null(root) {
		return api.OK
	}
	if err := w.down(root); err != api.OK {
		return err
	}
	// Asked behind the whole tree, since a node that can't be read is told ahead of a loop, wherever it is.
	if w.loops {
		return api.ErrForm
	}
	return api.OK
}

// down meets a pointer, and all that it leads to.
func (w *walker) down(at api.Ptr) api.Errno {
	if was := w.met[at]; was != unmet {
		w.loops = w.loops || was == within
		return api.OK
	}
	w.met[at] = within
	w.list = append(w.list, at)
	kids, err := w.kids(at)
	if err != api.OK {
		return err
	}
	for _, kid := range kids {
		if err := w.down(kid); err != api.OK {
			return err
		}
	}
	w.met[at] = behind
	return api.OK
}
