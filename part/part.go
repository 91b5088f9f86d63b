// Package part shows parts of maps, which whoever knows the map's root alone can trust: see shared/doc/06-part.md.
package part

import (
	"vidimus/api"
	"vidimus/codec"
	"vidimus/trie"
)

// Part: a part of a map: its tree (nil without pairs), of which no node is ever changed, so that parts may share them. What isn't open of it is a stub.
type Part struct {
	tree *api.Fork
}

// Show: the text of what is shown of the map for these keys and prefixes, and whether it isn't too long.
func Show(t *trie.Trie, keys []string, under []api.Prefix) (string, bool) {
	var nodes []api.Node
	if top := t.Top(); top != nil {
		nodes = shown(nil, top, rightOf(keys, under))
	}
	return codec.Write(codec.L(nodes...))
}

// Open: the part whose text this is, and whether it is one of a map of that root.
func Open(root, text string) (*Part, bool) {
	list, ok := codec.Read(text)
	if !ok || list.Kind != api.List {
		return nil, false
	}
	p := &Part{}
	if len(list.Kids) > 0 {
		tree, rest, ok := firstTree(list.Kids, nil, 0)
		if !ok || len(rest) > 0 {
			return nil, false
		}
		p.tree = tree
	}
	if p.Root() != root {
		return nil, false
	}
	return p, true
}

// Get: the value at key, whether there is one, and whether that is known.
func (p *Part) Get(key string) (string, bool, bool) {
	pairs, known := p.Under(key, api.KeyBits)
	if len(pairs) == 0 {
		return "", false, known
	}
	return pairs[0].Val, true, true
}

// Under: the pairs whose keys have so many first bits of key, rising by keys, and whether all of them are known.
func (p *Part) Under(key string, bits int) ([]api.Pair, bool) {
	asked := api.Prefix{Key: key, Bits: bits}
	switch {
	case p == nil:
		return nil, false
	case p.tree == nil || !right(asked):
		return nil, true
	}
	return gathered(nil, p.tree, asked)
}

// Put: the part of the map with val at key, and whether it is known.
func (p *Part) Put(key, val string) (*Part, bool) {
	// Where it is known what stands at the key, no stub stands on the way to it.
	_, _, known := p.Get(key)
	if !known || len(key) != api.HashLen {
		return nil, false
	}
	return &Part{tree: with(p.tree, leaf(key, val))}, true
}

// Delete: the part of the map without the key, and whether it is known.
func (p *Part) Delete(key string) (*Part, bool) {
	_, there, known := p.Get(key)
	switch {
	case !known || len(key) != api.HashLen:
		return nil, false
	case !there:
		return &Part{tree: p.tree}, true
	}
	return &Part{tree: without(p.tree, key)}, true
}

// Root: the map's root.
func (p *Part) Root() string {
	switch {
	case p == nil:
		return ""
	case p.tree == nil:
		return trie.Empty()
	}
	return p.tree.Hash
}

// Top: the part's tree, the caller's own.
func (p *Part) Top() *api.Fork {
	if p == nil {
		return nil
	}
	return copied(p.tree)
}

// right: whether it is a key, and a number of its bits.
func right(p api.Prefix) bool {
	return len(p.Key) == api.HashLen && p.Bits >= 0 && p.Bits <= api.KeyBits
}

// rightOf: the keys, as prefixes of all their bits, and the prefixes; of both those that are right.
func rightOf(keys []string, under []api.Prefix) []api.Prefix {
	var out []api.Prefix
	for _, key := range keys {
		if p := (api.Prefix{Key: key, Bits: api.KeyBits}); right(p) {
			out = append(out, p)
		}
	}
	for _, p := range under {
		if right(p) {
			out = append(out, p)
		}
	}
	return out
}

// leads: whether the prefix leads below the fork to that side.
func leads(p api.Prefix, f *api.Fork, side byte) bool {
	if trie.Common(p.Key, f.Key) < min(p.Bits, f.At) {
		return false
	}
	return p.Bits <= f.At || trie.Bit(p.Key, f.At) == side
}

// leading: those of the prefixes that lead below the fork to that side; where one of them has all keys that stand there, it alone.
func leading(asked []api.Prefix, f *api.Fork, side byte) []api.Prefix {
	var out []api.Prefix
	for i, p := range asked {
		if !leads(p, f, side) {
			continue
		}
		if p.Bits <= f.At {
			return asked[i : i+1]
		}
		out = append(out, p)
	}
	return out
}

// sides: what stands below the fork, that of 0 first.
func sides(f *api.Fork) []*api.Fork {
	return []*api.Fork{f.Zero, f.One}
}

// shown: out, and behind it the nodes of what is shown of a map's tree for the prefixes that lead to it.
func shown(out []api.Node, f *api.Fork, asked []api.Prefix) []api.Node {
	if f.Leaf {
		return append(out, codec.L(codec.S(f.Key), codec.S(f.Val)))
	}
	out = append(out, codec.L(codec.N(uint64(f.At)), codec.S(f.Key)))
	for side, below := range sides(f) {
		if led := leading(asked, f, byte(side)); len(led) > 0 {
			out = shown(out, below, led)
		} else {
			out = append(out, codec.S(below.Hash))
		}
	}
	return out
}

// gathered: out, and behind it those of the tree's pairs that have the prefix, rising, and true; nil and false, where not all of them are known.
func gathered(out []api.Pair, f *api.Fork, asked api.Prefix) ([]api.Pair, bool) {
	switch {
	case f.Stub:
		return nil, false
	case f.Leaf && trie.Common(asked.Key, f.Key) < asked.Bits:
		return out, true
	case f.Leaf:
		return append(out, api.Pair{Key: f.Key, Val: f.Val}), true
	}
	known := true
	for side, below := range sides(f) {
		if known && leads(asked, f, byte(side)) {
			out, known = gathered(out, below, asked)
		}
	}
	return out, known
}

// firstTree: the tree with whose nodes the list begins, what is behind them, and whether there is one that may stand on that side below a fork (nil: that stands at the top).
func firstTree(nodes []api.Node, above *api.Fork, side byte) (*api.Fork, []api.Node, bool) {
	if len(nodes) == 0 {
		return nil, nil, false
	}
	f, ok := single(nodes[0])
	// What is below is looked at behind that: places rise on the way down, and so it has an end soon.
	if !ok || !fits(f, above, side) {
		return nil, nil, false
	}
	if f.Stub || f.Leaf {
		return f, nodes[1:], true
	}
	zero, rest, ok := firstTree(nodes[1:], f, 0)
	if !ok {
		return nil, nil, false
	}
	one, rest, ok := firstTree(rest, f, 1)
	if !ok {
		return nil, nil, false
	}
	return fork(f.At, f.Key, zero, one), rest, true
}

// single: what a node of a part's text says by itself (a fork's hash isn't there yet), and whether it says anything.
func single(n api.Node) (*api.Fork, bool) {
	if n.Kind == api.Str {
		return &api.Fork{Stub: true, Hash: n.S}, len(n.S) == api.HashLen
	}
	if n.Kind != api.List || len(n.Kids) != 2 || n.Kids[1].Kind != api.Str {
		return nil, false
	}
	head, text := n.Kids[0], n.Kids[1].S
	switch head.Kind {
	case api.Str:
		return leaf(head.S, text), len(head.S) == api.HashLen
	case api.Num:
		ok := head.N < api.KeyBits && len(text) == api.HashLen && trie.First(text, int(head.N)) == text
		return &api.Fork{At: int(head.N), Key: text}, ok
	}
	return nil, false
}

// fits: whether it may stand on that side below a fork: its key goes on as that says, and its place, if it has one, is above that.
func fits(f, above *api.Fork, side byte) bool {
	if above == nil || f.Stub {
		return true
	}
	return span(f) > above.At && trie.Common(f.Key, above.Key) >= above.At && trie.Bit(f.Key, above.At) == side
}

// span: how many bits of its Key are those of all keys that stand there.
func span(f *api.Fork) int {
	if f.Leaf {
		return api.KeyBits
	}
	return f.At
}

// leaf: the tree of a map of that pair alone, of copies of both; nil, if the key isn't right.
func leaf(key, val string) *api.Fork {
	return trie.New().Put(key, val).Top()
}

// fork: of a place, its first bits, and what stands below.
func fork(at int, key string, zero, one *api.Fork) *api.Fork {
	return &api.Fork{At: at, Key: key, Zero: zero, One: one, Hash: trie.ForkHash(at, key, zero.Hash, one.Hash)}
}

// joined: the fork of two trees whose keys part at that place.
func joined(at int, a, b *api.Fork) *api.Fork {
	if trie.Bit(a.Key, at) == 1 {
		a, b = b, a
	}
	return fork(at, trie.First(a.Key, at), a, b)
}

// with: the tree with that leaf in it, in the place of the one that has its key. No stub stands on the way to it.
func with(f, added *api.Fork) *api.Fork {
	if f == nil {
		return added
	}
	at := trie.Common(f.Key, added.Key)
	switch {
	case at < span(f):
		return joined(at, f, added)
	case f.Leaf:
		return added
	case trie.Bit(added.Key, f.At) == 0:
		return fork(f.At, f.Key, with(f.Zero, added), f.One)
	}
	return fork(f.At, f.Key, f.Zero, with(f.One, added))
}

// without: the tree without a key whose leaf is open in it; nil, if it has no other one. What stands beside the leaf, a stub too, takes their fork's place, as its hash doesn't hang on where it stands.
func without(f *api.Fork, key string) *api.Fork {
	if f.Leaf {
		return nil
	}
	zero, one := f.Zero, f.One
	if trie.Bit(key, f.At) == 0 {
		zero = without(zero, key)
	} else {
		one = without(one, key)
	}
	switch {
	case zero == nil:
		return one
	case one == nil:
		return zero
	}
	return fork(f.At, f.Key, zero, one)
}

// copied: a tree like this one, in memory of its own.
func copied(f *api.Fork) *api.Fork {
	if f == nil {
		return nil
	}
	c := *f
	c.Zero, c.One = copied(f.Zero), copied(f.One)
	return &c
}
