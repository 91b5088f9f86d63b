// Package tape: see shared/doc/04-tape.md.
package tape

import (
	"vidimus/api"
)

// Tape: its fields are yours to choose.
type Tape struct{}

func New(s string) (r0 *Tape)                        { return }
func (t *Tape) Take(n int) (r0 string, r1 api.Errno) { return }
func (t *Tape) Below(m int) (r0 int, r1 api.Errno)   { return }
func (t *Tape) Left() (r0 int)                       { return }
func (t *Tape) Taken() (r0 int)                      { return }
