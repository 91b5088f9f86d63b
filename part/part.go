// Package part: see shared/doc/06-part.md.
package part

import (
	"vidimus/api"
	"vidimus/trie"
)

// Part: its fields are yours to choose.
type Part struct{}

func Show(t *trie.Trie, keys []string, under []api.Prefix) (r0 string, r1 bool) { return }
func Open(root, text string) (r0 *Part, r1 bool)                                { return }
func (p *Part) Get(key string) (r0 string, r1 bool, r2 bool)                    { return }
func (p *Part) Under(key string, bits int) (r0 []api.Pair, r1 bool)             { return }
func (p *Part) Put(key, val string) (r0 *Part, r1 bool)                         { return }
func (p *Part) Delete(key string) (r0 *Part, r1 bool)                           { return }
func (p *Part) Root() (r0 string)                                               { return }
func (p *Part) Top() (r0 *api.Fork)                                             { return }
