// Package plan: see shared/doc/19-plan.md.
package plan

import (
	"vidimus/api"
)

func Table(s api.Stmt) (r0 api.Table)                             { return }
func Check(s api.Stmt, t api.Table, there bool) (r0 api.Errno)    { return }
func Path(s api.Stmt, t api.Table) (r0 api.Path)                  { return }
func Made(s api.Stmt, t api.Table) (r0 [][]api.Val, r1 api.Errno) { return }
func Run(s api.Stmt, t api.Table, rows [][]api.Val) (r0 api.Result, r1 [][]api.Val, r2 [][]api.Val) {
	return
}
func Key(t api.Table, row []api.Val) (r0 api.Val)            { return }
func Def(t api.Table) (r0 string)                            { return }
func ReadDef(s string) (r0 api.Table, r1 bool)               { return }
func Cell(row []api.Val) (r0 string)                         { return }
func ReadCell(s string, t api.Table) (r0 []api.Val, r1 bool) { return }
