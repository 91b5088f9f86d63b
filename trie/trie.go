// Package trie keeps maps of keys of 256 bits, of one shape for one content, that are never changed: see shared/doc/05-trie.md.
package trie

import (
	"math/bits"
	"strings"

	"vidimus/api"
	"vidimus/sha"
)

// What the texts begin with that are hashed, so that no leaf's is a fork's.
const (
	leafMark = "\x00"
	forkMark = "\x01"
)

// Trie: a map: its tree (nil without pairs), of which no node is ever changed, so that maps may share them; and how many pairs it has.
type Trie struct {
	tree  *api.Fork
	count int
}

// New: a map without pairs.
func New() *Trie {
	return &Trie{}
}

// Put: the map with val at key.
func (t *Trie) Put(key, val string) *Trie {
	if len(key) != api.HashLen {
		return t
	}
	count := t.Len()
	if _, ok := t.Get(key); !ok {
		count++
	}
	return &Trie{tree: with(t.top(), leaf(key, val)), count: count}
}

// Delete: the map without the key.
func (t *Trie) Delete(key string) *Trie {
	if len(key) != api.HashLen {
		return t
	}
	if _, ok := t.Get(key); !ok {
		return &Trie{tree: t.top(), count: t.Len()}
	}
	return &Trie{tree: without(t.top(), key), count: t.Len() - 1}
}

// Get: the value at key, and whether there is one.
func (t *Trie) Get(key string) (string, bool) {
	f := toward(t.top(), key, api.KeyBits)
	if f == nil || f.Key != key {
		return "", false
	}
	return f.Val, true
}

// Under: the pairs whose keys have so many first bits of key, rising by keys.
func (t *Trie) Under(key string, bits int) []api.Pair {
	if len(key) != api.HashLen || bits < 0 || bits > api.KeyBits {
		return nil
	}
	f := toward(t.top(), key, bits)
	if f == nil || Common(f.Key, key) < bits {
		return nil
	}
	return gathered(nil, f)
}

// All: all pairs, rising by keys.
func (t *Trie) All() []api.Pair {
	return gathered(nil, t.top())
}

// Len: how many pairs there are.
func (t *Trie) Len() int {
	if t == nil {
		return 0
	}
	return t.count
}

// Root: the hash of the map's tree.
func (t *Trie) Root() string {
	f := t.top()
	if f == nil {
		return Empty()
	}
	return f.Hash
}

// Top: the map's tree, the caller's own.
func (t *Trie) Top() *api.Fork {
	return copied(t.top())
}

// Empty: the root of a map without pairs.
func Empty() string {
	return string(make([]byte, api.HashLen))
}

// LeafHash: the hash of the leaf of this key and value.
func LeafHash(key, val string) string {
	return sha.Sum(leafMark + key + sha.Sum(val))
}

// ForkHash: the hash of a fork of this place and these first bits, filled up, and of the hashes of the trees below it.
func ForkHash(at int, key, zero, one string) string {
	place := string([]byte{byte(at >> 8), byte(at)})
	return sha.Sum(forkMark + place + key + zero + one)
}

// Bit: the bit i of the key, 0 or 1; 0 where there is none.
func Bit(key string, i int) byte {
	if i < 0 || i/8 >= len(key) {
		return 0
	}
	return key[i/8] >> (7 - i%8) & 1
}

// Common: how many first bits a and b have in common.
func Common(a, b string) int {
	short := min(len(a), len(b))
	for i := range short {
		if unlike := a[i] ^ b[i]; unlike != 0 {
			return 8*i + bits.LeadingZeros8(unlike)
		}
	}
	return 8 * short
}

// First: the first n bits of the key, filled up to a key with bits 0; "" where there are none such.
func First(key string, n int) string {
	if len(key) != api.HashLen || n < 0 || n > api.KeyBits {
		return ""
	}
	var out [api.HashLen]byte
	whole, rest := n/8, n%8
	copy(out[:], key[:whole])
	if rest > 0 {
		out[whole] = key[whole] &^ (255 >> rest)
	}
	return string(out[:])
}

// top: the map's tree as it is kept.
func (t *Trie) top() *api.Fork {
	if t == nil {
		return nil
	}
	return t.tree
}

// leaf: of copies, so that who keeps a map doesn't keep what its keys and values were cut from.
func leaf(key, val string) *api.Fork {
	return &api.Fork{Leaf: true, Key: strings.Clone(key), Val: strings.Clone(val), Hash: LeafHash(key, val)}
}

// fork: of a place, its first bits, and what stands below.
func fork(at int, key string, zero, one *api.Fork) *api.Fork {
	return &api.Fork{At: at, Key: key, Zero: zero, One: one, Hash: ForkHash(at, key, zero.Hash, one.Hash)}
}

// joined: the fork of two trees whose keys part at that place.
func joined(at int, a, b *api.Fork) *api.Fork {
	if Bit(a.Key, at) == 1 {
		a, b = b, a
	}
	return fork(at, First(a.Key, at), a, b)
}

// span: how many bits of the tree's Key are those of all its keys.
func span(f *api.Fork) int {
	if f.Leaf {
		return api.KeyBits
	}
	return f.At
}

// toward: the tree to which the first so many bits of the key lead; whether it has those that no fork asks for, is not looked at.
func toward(f *api.Fork, key string, bits int) *api.Fork {
	for f != nil && span(f) < bits {
		if Bit(key, f.At) == 0 {
			f = f.Zero
		} else {
			f = f.One
		}
	}
	return f
}

// with: the tree with that leaf in it, in the place of the one that has its key.
func with(f, added *api.Fork) *api.Fork {
	if f == nil {
		return added
	}
	at := Common(f.Key, added.Key)
	switch {
	case at < span(f):
		return joined(at, f, added)
	case f.Leaf:
		return added
	case Bit(added.Key, f.At) == 0:
		return fork(f.At, f.Key, with(f.Zero, added), f.One)
	}
	return fork(f.At, f.Key, f.Zero, with(f.One, added))
}

// without: the tree without a key that it has; nil, if it has no other one.
func without(f *api.Fork, key string) *api.Fork {
	if f.Leaf {
		return nil
	}
	zero, one := f.Zero, f.One
	if Bit(key, f.At) == 0 {
		zero = without(zero, key)
	} else {
		one = without(one, key)
	}
	switch {
	case zero == nil:
		return one
	case one == nil:
		return zero
	}
	return fork(f.At, f.Key, zero, one)
}

// gathered: out, and behind it the tree's pairs, rising.
func gathered(out []api.Pair, f *api.Fork) []api.Pair {
	if f == nil {
		return out
	}
	if f.Leaf {
		return append(out, api.Pair{Key: f.Key, Val: f.Val})
	}
	return gathered(gathered(out, f.Zero), f.One)
}

// copied: a tree like this one, in memory of its own.
func copied(f *api.Fork) *api.Fork {
	if f == nil {
		return nil
	}
	c := *f
	c.Zero, c.One = copied(f.Zero), copied(f.One)
	return &c
}
