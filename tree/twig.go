package tree

import (
	"slices"
	"strings"

	"banyan/api"
	"banyan/ptr"
)

const (
	headSize  = 2                       // bytes of a node ahead of its keys
	textSize  = 1                       // bytes of a text ahead of its own
	kidSize   = 4 + 8 + len(api.Hash{}) // bytes of a pointer
	smallSize = api.Sector / 4          // a node of fewer bytes is joined with another one
)

// A twig is a node that trees share, so it is never changed. Of one that is written just at is kept: it is read whenever
// it is needed.
type twig struct {
	at    api.Ptr // where it lies; null of one that isn't written yet
	leaf  bool
	items []item
	fresh int // how many nodes, of it and all that it leads to, aren't written
}

// An item of a leaf is a key and its value; of a branch, a kid, and the key from which on it leads to all. The first kid's
// is empty, or doesn't matter: the way to the branch tells it.
type item struct {
	key, val string
	kid      *twig
}

// lying is a node that is written, or nil.
func lying(at api.Ptr) *twig {
	if ptr.Null(at) {
		return nil
	}
	return &twig{at: at}
}

// grown is a node that isn't written yet.
func grown(items []item, leaf bool) *twig {
	x := &twig{leaf: leaf, items: items, fresh: 1}
	if leaf {
		return x
	}
	items[0].key = ""
	for _, it := range items {
		x.fresh += it.kid.fresh
	}
	return x
}

// itemsOf are a node's.
func itemsOf(n api.Node) []item {
	if n.Leaf {
		items := make([]item, len(n.Keys))
		for i, key := range n.Keys {
			items[i] = item{key: key, val: n.Vals[i]}
		}
		return items
	}
	items := make([]item, len(n.Kids))
	for i, kid := range n.Kids {
		items[i].kid = lying(kid)
		if i > 0 {
			items[i].key = n.Keys[i-1]
		}
	}
	return items
}

// find is how many items have keys ahead of key, and whether the next one has that key.
func find(items []item, key string) (int, bool) {
	return slices.BinarySearchFunc(items, key, func(it item, key string) int { return strings.Compare(it.key, key) })
}

// way is the item of a branch by which a key's way goes on.
func way(items []item, key string) int {
	i, there := find(items, key)
	if there {
		return i
	}
	return max(i-1, 0)
}

// size is how many bytes items have, as a node.
func size(items []item, leaf bool) int {
	n := headSize
	for i, it := range items {
		n += it.size(leaf)
		if i == 0 && !leaf {
			n -= textSize + len(it.key)
		}
	}
	return n
}

// size is how many bytes an item has, in a node.
func (it item) size(leaf bool) int {
	if leaf {
		return textSize + len(it.key) + textSize + len(it.val)
	}
	return textSize + len(it.key) + kidSize
}

// small says whether a node that isn't written has so few bytes that it is to be joined.
func (x *twig) small() bool { return size(x.items, x.leaf) < smallSize }

// heir is what may stand instead of a node: of a branch of one kid, which can't be written, the kid.
func (x *twig) heir() *twig {
	if !x.leaf && len(x.items) == 1 {
		return x.items[0].kid
	}
	return x
}

// rootOf is the root of a tree, of what stands instead of its root ahead.
func rootOf(stead []item) *twig {
	switch len(stead) {
	case 0:
		return nil
	case 1:
		return stead[0].kid.heir()
	}
	return grown(stead, false)
}

// parted are the nodes that items have room in, as items of a branch, the first of them from a key on. Two are always
// enough, since no more than an item, or a small node, comes to what had room in one.
func parted(from string, items []item, leaf bool) []item {
	if len(items) == 0 {
		return nil
	}
	if size(items, leaf) <= api.Sector {
		return []item{{key: from, kid: grown(items, leaf)}}
	}
	i := middle(items, leaf)
	next := items[i].key // told ahead of grown, which empties it
	return []item{{key: from, kid: grown(items[:i:i], leaf)}, {key: next, kid: grown(items[i:], leaf)}}
}

// middle is the first item that as many bytes stand ahead of as from it on.
func middle(items []item, leaf bool) int {
	ahead, behind := 0, 0
	for _, it := range items {
		behind += it.size(leaf)
	}
	i := 0
	for ahead < behind {
		n := items[i].size(leaf)
		ahead, behind = ahead+n, behind-n
		i++
	}
	return i
}

// A span is all keys from one on, and ahead of another; of an empty to all behind.
type span struct{ from, to string }

// only is the span of one key.
func only(key string) span { return span{key, key + "\x00"} }

func (s span) empty() bool { return s.to != "" && s.from >= s.to }

// of is what of a span the i-th item of a branch leads to.
func (s span) of(items []item, i int) span {
	s.from = max(s.from, items[i].key)
	if i+1 < len(items) && (s.to == "" || items[i+1].key < s.to) {
		s.to = items[i+1].key
	}
	return s
}

// clip are the items that have, or lead to, keys within a span, in a list of its own. Keys of a node that the way to it
// doesn't lead to are left out so, wherever they came from: what Scan tells rises, and is what Get tells.
func (s span) clip(items []item, leaf bool) []item {
	kept := make([]item, 0, len(items)+1)
	for i, it := range items {
		if leaf && s.has(it.key) || !leaf && !s.of(items, i).empty() {
			kept = append(kept, it)
		}
	}
	return kept
}

func (s span) has(key string) bool { return key >= s.from && (s.to == "" || key < s.to) }
