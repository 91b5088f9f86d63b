// Package leak: see shared/doc/27-leak.md.
package leak

import (
	"vidimus/api"
)

// Symbols: its fields are yours to choose.
type Symbols struct{}

func New() (r0 *Symbols)                                                              { return }
func (s *Symbols) Catalog(table string) (r0 string, r1 api.Errno)                     { return }
func (s *Symbols) Row(table string, key api.Val) (r0 string, r1 api.Errno)            { return }
func (s *Symbols) Rows(table string) (r0 api.Prefix, r1 api.Errno)                    { return }
func (s *Symbols) Entry(table, col string, v, key api.Val) (r0 string, r1 api.Errno)  { return }
func (s *Symbols) Entries(table, col string, v api.Val) (r0 api.Prefix, r1 api.Errno) { return }
func (s *Symbols) Seal(place, text string) (r0 string, r1 api.Errno)                  { return }
func (s *Symbols) Open(place, cell string) (r0 string, r1 bool)                       { return }
func Of(shards int, texts []string) (r0 []string, r1 []api.Result, r2 api.Errno)      { return }
func Same(shards int, a, b []string) (r0 bool, r1 api.Errno)                          { return }
