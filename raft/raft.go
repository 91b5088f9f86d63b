// Package raft is one of several nodes that agree on a log: see shared/doc/09-raft.md.
package raft

import (
	"vidimus/api"
	"vidimus/log"
)

const (
	most  = 9 // nodes
	beat  = 3 // ticks, from which on a leader feeds
	batch = 8 // entries of one message, at most
)

// Node: its number, its log, and what it knows beside that, which a crash may take.
type Node struct {
	id       int
	log      *log.Log
	role     int
	leader   int
	commit   uint64
	patience int    // how many ticks passed since it was renewed
	nodes    []peer // each of the n, by their numbers
}

// peer: what a node knows of another one.
type peer struct {
	voted bool   // for it, as a candidate
	ahead uint64 // the index ahead of next, which itself may be past the greatest number
	match uint64
}

// Start: a node of that number, one of n, on that log.
func Start(id, n int, l *log.Log) (*Node, api.Errno) {
	if n < 1 || n > most || id < 0 || id >= n {
		return nil, api.ErrArg
	}
	if l.Down() {
		return nil, api.ErrDown
	}
	base, _, _ := l.Base()
	return &Node{id: id, log: l, role: api.Follower, leader: api.Nobody, commit: base, nodes: make([]peer, n)}, api.OK
}

// Tick: a tick; what it sends.
func (x *Node) Tick() []api.Msg {
	if x.Down() {
		return nil
	}
	x.patience++
	switch {
	case x.role == api.Leader && x.patience >= beat:
		x.patience = 0
		return x.feedAll()
	case x.role != api.Leader && x.patience >= x.limit():
		return x.stand()
	}
	return nil
}

// Receive: a message; what it sends.
func (x *Node) Receive(m api.Msg) []api.Msg {
	if x.Down() || m.To != x.id || m.From == x.id || m.From < 0 || m.From >= len(x.nodes) {
		return nil
	}
	if m.Term > x.log.Term() && !x.join(m.Term) {
		return nil
	}
	switch m.Kind {
	case api.AskVote:
		return x.asked(m)
	case api.Vote:
		return x.chosen(m)
	case api.Append, api.Snap:
		return x.led(m)
	case api.Appended:
		return x.told(m)
	}
	return nil
}

// Propose: a command; of a leader the index and the term of its entry, and what it sends.
func (x *Node) Propose(cmd string) (uint64, uint64, []api.Msg) {
	if x.Role() != api.Leader || x.add(cmd) != api.OK {
		return 0, 0, nil
	}
	x.count()
	return x.log.Last(), x.log.Term(), x.feedAll()
}

// Compact: the log's base is that index, which all have agreed on, and the state stands for all up to it.
func (x *Node) Compact(index uint64, state string) api.Errno {
	if x.Down() {
		return api.ErrDown
	}
	if index > x.commit {
		return api.ErrArg
	}
	return x.log.Compact(index, state)
}

// Role: what it is.
func (x *Node) Role() int {
	if x == nil {
		return 0
	}
	return x.role
}

// Leader: the node that it takes for the leader, or Nobody.
func (x *Node) Leader() int {
	if x == nil {
		return api.Nobody
	}
	return x.leader
}

// Commit: its commit index.
func (x *Node) Commit() uint64 {
	if x == nil {
		return 0
	}
	return x.commit
}

// Log: its log.
func (x *Node) Log() *log.Log {
	if x == nil {
		return nil
	}
	return x.log
}

// Down: whether it is down. That is its log's to tell, as a log that answered so once answers so from then on.
func (x *Node) Down() bool {
	return x == nil || x.log.Down()
}
