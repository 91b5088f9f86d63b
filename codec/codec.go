// Package codec: see shared/doc/03-codec.md.
package codec

import (
	"vidimus/api"
)

func Right(n api.Node) (r0 bool)            { return }
func Write(n api.Node) (r0 string, r1 bool) { return }
func Read(s string) (r0 api.Node, r1 bool)  { return }
func Same(a, b api.Node) (r0 bool)          { return }
func N(n uint64) (r0 api.Node)              { return }
func S(s string) (r0 api.Node)              { return }
func L(kids ...api.Node) (r0 api.Node)      { return }
