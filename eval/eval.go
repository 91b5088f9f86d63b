// Package eval: see shared/doc/18-eval.md.
package eval

import (
	"vidimus/api"
)

func Kind(e api.Expr, cols []api.Col, groups bool) (r0 int, r1 api.Errno)         { return }
func Group(e api.Expr) (r0 bool)                                                  { return }
func Of(e api.Expr, cols []api.Col, row []api.Val) (r0 api.Val, r1 api.Errno)     { return }
func All(e api.Expr, cols []api.Col, rows [][]api.Val) (r0 api.Val, r1 api.Errno) { return }
func Compare(a, b api.Val) (r0 int)                                               { return }
func True(v api.Val) (r0 bool)                                                    { return }
