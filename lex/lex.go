// Package lex: see shared/doc/16-lex.md.
package lex

import (
	"vidimus/api"
)

func Tokens(s string) (r0 []api.Token, r1 api.Errno) { return }
func Text(l []api.Token) (r0 string)                 { return }
