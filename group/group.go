// Package group: see shared/doc/11-group.md.
package group

import (
	"vidimus/api"
	"vidimus/net"
	"vidimus/raft"
)

// Group: its fields are yours to choose.
type Group struct{}

// Machine does commands.
type Machine interface {
	Apply(cmd string) string
	State() string
	Restore(state string) bool
}

func New(n int, machine func() Machine) (r0 *Group, r1 api.Errno) { return }
func (g *Group) Tick(i int)                                       {}
func (g *Group) Deliver(k int) (r0 bool)                          { return }
func (g *Group) Propose(i int, cmd string) (r0 uint64, r1 uint64) { return }
func (g *Group) Compact(i int) (r0 api.Errno)                     { return }
func (g *Group) Crash(i, keep int)                                {}
func (g *Group) Fuel(i, n int)                                    {}
func (g *Group) Node(i int) (r0 *raft.Node)                       { return }
func (g *Group) Machine(i int) (r0 Machine)                       { return }
func (g *Group) Applied(i int) (r0 uint64)                        { return }
func (g *Group) Net() (r0 *net.Net)                               { return }
func (g *Group) Outcomes() (r0 []api.Outcome)                     { return }
