// Package ghost: see shared/doc/22-ghost.md.
package ghost

import (
	"vidimus/api"
	"vidimus/tape"
)

// Ghost: its fields are yours to choose.
type Ghost struct{}

func New(t *tape.Tape) (r0 *Ghost)                                                  { return }
func (g *Ghost) Catalog(table string) (r0 string, r1 api.Errno)                     { return }
func (g *Ghost) Row(table string, key api.Val) (r0 string, r1 api.Errno)            { return }
func (g *Ghost) Rows(table string) (r0 api.Prefix, r1 api.Errno)                    { return }
func (g *Ghost) Entry(table, col string, v, key api.Val) (r0 string, r1 api.Errno)  { return }
func (g *Ghost) Entries(table, col string, v api.Val) (r0 api.Prefix, r1 api.Errno) { return }
func (g *Ghost) Seal(place, text string) (r0 string, r1 api.Errno)                  { return }
func (g *Ghost) Open(place, cell string) (r0 string, r1 bool)                       { return }
func Trace(shards int, chance string, texts []string) (r0 []string, r1 []api.Result, r2 api.Errno) {
	return
}
