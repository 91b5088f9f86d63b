// Package group is nodes, their disks, what is on its way between them, and what they do with what they agree on: see shared/doc/11-group.md.
package group

import (
	"vidimus/api"
	"vidimus/disk"
	"vidimus/net"
	"vidimus/raft"
)

const most = 9 // nodes

// Machine does commands.
type Machine interface {
	// Apply: what it answers to a command, which it does.
	Apply(cmd string) string
	// State: a text that stands for all that it did.
	State() string
	// Restore: it is as one was that told this state; whether there is such.
	Restore(state string) bool
}

// Group: its nodes, what is on its way between them, and what they applied since that was asked last.
type Group struct {
	machine  func() Machine
	members  []*member // by their numbers
	net      *net.Net
	outcomes []api.Outcome
}

// New: a group of n new nodes on new disks, with machines that the function makes.
func New(n int, machine func() Machine) (*Group, api.Errno) {
	if n < 1 || n > most || machine == nil {
		return nil, api.ErrArg
	}
	g := &Group{machine: machine, net: net.New()}
	for id := range n {
		m := &member{id: id, disk: disk.New()}
		m.start(n, machine())
		g.members = append(g.members, m)
	}
	return g, api.OK
}

// Tick: a tick of the node i.
func (g *Group) Tick(i int) {
	if m := g.member(i); m != nil {
		g.did(m, m.node.Tick())
	}
}

// Deliver: the message at the place k of the net is taken, and its node receives it; whether there was one.
func (g *Group) Deliver(k int) bool {
	msg, ok := g.Net().Take(k)
	if m := g.member(msg.To); ok && m != nil {
		g.did(m, m.node.Receive(msg))
	}
	return ok
}

// Propose: a command to the node i: the index and the term of its entry, if that leads.
func (g *Group) Propose(i int, cmd string) (uint64, uint64) {
	m := g.member(i)
	if m == nil {
		return 0, 0
	}
	index, term, sent := m.node.Propose(cmd)
	g.did(m, sent)
	return index, term
}

// Compact: the machine's state stands in the log of the node i for all that it applied.
func (g *Group) Compact(i int) api.Errno {
	m := g.member(i)
	if m == nil {
		return api.ErrArg
	}
	err := m.node.Compact(m.applied, m.machine.State())
	g.did(m, nil)
	return err
}

// Crash: the disk of the node i crashes, and the node is started anew, with a new machine.
func (g *Group) Crash(i, keep int) {
	if m := g.member(i); m != nil {
		m.disk.Crash(keep)
		m.start(len(g.members), g.machine())
	}
}

// Fuel: the disk of the node i does n more steps; any number, if n is below 0.
func (g *Group) Fuel(i, n int) {
	if m := g.member(i); m != nil {
		m.disk.Fuel(n)
	}
}

// Node: the node i.
func (g *Group) Node(i int) *raft.Node {
	m := g.member(i)
	if m == nil {
		return nil
	}
	return m.node
}

// Machine: that of the node i.
func (g *Group) Machine(i int) Machine {
	m := g.member(i)
	if m == nil {
		return nil
	}
	return m.machine
}

// Applied: the index up to which the node i applied.
func (g *Group) Applied(i int) uint64 {
	m := g.member(i)
	if m == nil {
		return 0
	}
	return m.applied
}

// Net: what is on its way between the nodes.
func (g *Group) Net() *net.Net {
	if g == nil {
		return nil
	}
	return g.net
}

// Outcomes: what the nodes applied since it was asked last, in order.
func (g *Group) Outcomes() []api.Outcome {
	if g == nil {
		return nil
	}
	out := g.outcomes
	// no more is added to what the caller has now
	g.outcomes = nil
	return out
}

// member: the node i and what is its own, or nil.
func (g *Group) member(i int) *member {
	if g == nil || i < 0 || i >= len(g.members) {
		return nil
	}
	return g.members[i]
}

// did: a node did something, and sent this; then it applies.
func (g *Group) did(m *member, sent []api.Msg) {
	g.net.Put(sent...)
	g.outcomes = append(g.outcomes, m.apply()...)
}
