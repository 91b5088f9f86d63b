// Package world: see shared/doc/21-world.md.
package world

import (
	"vidimus/api"
	"vidimus/group"
	"vidimus/proxy"
)

// World: its fields are yours to choose.
type World struct{}

func New(shards, nodes, proxies int, key, master, chance string) (r0 *World, r1 api.Errno) { return }
func (w *World) Start(proxy int, text string) (r0 api.Errno)                               { return }
func (w *World) Ask(proxy, node int) (r0 bool)                                             { return }
func (w *World) Letters() (r0 []api.Letter)                                                { return }
func (w *World) Give(k int) (r0 api.Errno)                                                 { return }
func (w *World) Lose(k int) (r0 bool)                                                      { return }
func (w *World) Twice(k int) (r0 bool)                                                     { return }
func (w *World) Tick(shard, node int)                                                      {}
func (w *World) Deliver(shard, k int) (r0 bool)                                            { return }
func (w *World) Crash(shard, node, keep int)                                               {}
func (w *World) Fuel(shard, node, n int)                                                   {}
func (w *World) Compact(shard, node int) (r0 api.Errno)                                    { return }
func (w *World) CrashProxy(proxy, keep int) (r0 api.Errno)                                 { return }
func (w *World) FuelProxy(proxy, shard, n int)                                             {}
func (w *World) Proxy(i int) (r0 *proxy.Proxy)                                             { return }
func (w *World) Group(i int) (r0 *group.Group)                                             { return }
func (w *World) Round()                                                                    {}
