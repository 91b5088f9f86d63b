// Package shard: see shared/doc/13-shard.md.
package shard

import (
	"vidimus/api"
	"vidimus/trie"
)

// Shard: its fields are yours to choose.
type Shard struct{}

func New(number uint64, first api.Signed) (r0 *Shard)                                { return }
func (s *Shard) Apply(cmd string) (r0 string)                                        { return }
func (s *Shard) State() (r0 string)                                                  { return }
func (s *Shard) Restore(state string) (r0 bool)                                      { return }
func (s *Shard) Chain() (r0 []api.Signed)                                            { return }
func (s *Shard) Map() (r0 *trie.Trie)                                                { return }
func Look(client, serial, seq uint64, keys []string, under []api.Prefix) (r0 string) { return }
func Swap(client, serial uint64, hash string, next api.Signed, puts []api.Pair, deletes []string) (r0 string) {
	return
}
func Answer(s string) (r0 api.Answer, r1 bool) { return }
