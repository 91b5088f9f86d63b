package group

import (
	"vidimus/api"
	"vidimus/disk"
	"vidimus/log"
	"vidimus/raft"
)

// member: a node, and what is its own.
type member struct {
	id      int
	disk    *disk.Disk
	node    *raft.Node
	machine Machine
	applied uint64 // the index up to which its machine did what they agreed on
}

// start: the node, one of n, is started on what its disk holds, with that machine, which is new.
func (m *member) start(n int, machine Machine) {
	// a disk that is up, and on which nothing but the node's log wrote, refuses neither; of a log or a node that isn't there the answer is that it is down
	l, _ := log.Open(m.disk)
	m.node, _ = raft.Start(m.id, n, l)
	m.machine, m.applied = machine, 0
	m.restore()
}

// restore: the machine is as the log's base says, if that is above what it did.
func (m *member) restore() {
	base, _, state := m.node.Log().Base()
	if base > m.applied {
		m.machine.Restore(state)
		m.applied = base
	}
}

// apply: the machine does what they agreed on; what it answers.
func (m *member) apply() []api.Outcome {
	if m.node.Down() {
		return nil
	}
	m.restore()
	var out []api.Outcome
	for m.applied < m.node.Commit() {
		e, ok := m.node.Log().At(m.applied + 1)
		if !ok {
			break
		}
		m.applied++
		// by a command without a text a leader begins its term: it isn't for machines
		if e.Cmd != "" {
			out = append(out, api.Outcome{Node: m.id, Index: m.applied, Term: e.Term, Out: m.machine.Apply(e.Cmd)})
		}
	}
	return out
}
