// Package parse: see shared/doc/17-parse.md.
package parse

import (
	"vidimus/api"
)

func Parse(s string) (r0 api.Stmt, r1 api.Errno) { return }
func Depth(e api.Expr) (r0 int)                  { return }
func Text(e api.Expr) (r0 string)                { return }
