// Package fork: see shared/doc/23-fork.md.
package fork

import (
	"vidimus/api"
	"vidimus/shard"
)

// Split: its fields are yours to choose.
type Split struct{}

func Of(s api.Signed) (r0 api.Beacon)                                            { return }
func Joins(key string, floor api.Signed, b api.Beacon, l []api.Signed) (r0 bool) { return }
func Between(chain []api.Signed, a, b uint64) (r0 []api.Signed)                  { return }
func Meet(a, b []api.Signed) (r0 int)                                            { return }
func Extract(a, b []api.Signed) (r0 string, r1 string, r2 bool)                  { return }
func New(number uint64, first api.Signed) (r0 *Split)                            { return }
func (s *Split) Part(branch int) (r0 int)                                        { return }
func (s *Split) Apply(branch int, cmd string) (r0 string)                        { return }
func (s *Split) Branch(i int) (r0 *shard.Shard)                                  { return }
func (s *Split) Len() (r0 int)                                                   { return }
