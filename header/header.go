// Package header: see shared/doc/12-header.md.
package header

import (
	"vidimus/api"
)

func Bytes(h api.Header) (r0 string, r1 bool)                                                { return }
func Hash(h api.Header) (r0 string)                                                          { return }
func Sign(key string, h api.Header) (r0 api.Signed, r1 bool)                                 { return }
func Check(key string, s api.Signed) (r0 bool)                                               { return }
func First(key string, shard uint64) (r0 api.Signed)                                         { return }
func Next(key string, s api.Signed, root string, who, stamp uint64) (r0 api.Signed, r1 bool) { return }
func Follows(a, b api.Header) (r0 bool)                                                      { return }
func Chain(key string, from api.Signed, l []api.Signed) (r0 api.Signed, r1 bool)             { return }
func Text(l []api.Signed) (r0 string)                                                        { return }
func Read(s string) (r0 []api.Signed, r1 bool)                                               { return }
func Node(s api.Signed) (r0 api.Node)                                                        { return }
func Of(n api.Node) (r0 api.Signed, r1 bool)                                                 { return }
