// Package aes: see shared/doc/02-aes.md.
package aes

import (
	"vidimus/api"
)

func Box(b byte) (r0 byte)                                   { return }
func Block(key, block string) (r0 string, r1 api.Errno)      { return }
func Stream(key, number, s string) (r0 string, r1 api.Errno) { return }
