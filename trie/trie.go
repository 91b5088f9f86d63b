// Package trie: see shared/doc/05-trie.md.
package trie

import (
	"vidimus/api"
)

// Trie: its fields are yours to choose.
type Trie struct{}

func New() (r0 *Trie)                                      { return }
func (t *Trie) Put(key, val string) (r0 *Trie)             { return }
func (t *Trie) Delete(key string) (r0 *Trie)               { return }
func (t *Trie) Get(key string) (r0 string, r1 bool)        { return }
func (t *Trie) Under(key string, bits int) (r0 []api.Pair) { return }
func (t *Trie) All() (r0 []api.Pair)                       { return }
func (t *Trie) Len() (r0 int)                              { return }
func (t *Trie) Root() (r0 string)                          { return }
func (t *Trie) Top() (r0 *api.Fork)                        { return }
func Empty() (r0 string)                                   { return }
func LeafHash(key, val string) (r0 string)                 { return }
func ForkHash(at int, key, zero, one string) (r0 string)   { return }
func Bit(key string, i int) (r0 byte)                      { return }
func Common(a, b string) (r0 int)                          { return }
func First(key string, n int) (r0 string)                  { return }
