// Package raft: see shared/doc/09-raft.md.
package raft

import (
	"vidimus/api"
	"vidimus/log"
)

// Node: its fields are yours to choose.
type Node struct{}

func Start(id, n int, l *log.Log) (r0 *Node, r1 api.Errno)              { return }
func (x *Node) Tick() (r0 []api.Msg)                                    { return }
func (x *Node) Receive(m api.Msg) (r0 []api.Msg)                        { return }
func (x *Node) Propose(cmd string) (r0 uint64, r1 uint64, r2 []api.Msg) { return }
func (x *Node) Compact(index uint64, state string) (r0 api.Errno)       { return }
func (x *Node) Role() (r0 int)                                          { return }
func (x *Node) Leader() (r0 int)                                        { return }
func (x *Node) Commit() (r0 uint64)                                     { return }
func (x *Node) Log() (r0 *log.Log)                                      { return }
func (x *Node) Down() (r0 bool)                                         { return }
