package raft

import (
	"vidimus/api"
)

// asked: for its vote. It gives one in a term, and to none whose log is worse than its own.
func (x *Node) asked(m api.Msg) []api.Msg {
	granted := m.Term == x.log.Term() && x.role == api.Follower && x.mayVote(m.From) && !x.better(m.Index, m.LogTerm)
	if granted {
		if x.log.SetTerm(m.Term, m.From) != api.OK {
			return nil
		}
		x.patience = 0
	}
	out := x.msg(api.Vote, m.From)
	out.OK = granted
	return []api.Msg{out}
}

// mayVote: whether it voted for none but that node in its term.
func (x *Node) mayVote(node int) bool {
	vote := x.log.Vote()
	return vote == api.Nobody || vote == node
}

// better: whether its log is better than one that ends at that index, with that term there.
func (x *Node) better(index, term uint64) bool {
	last := x.log.Last()
	own, _ := x.log.TermAt(last)
	return own > term || own == term && last > index
}

// chosen: somebody answered whether it voted for it.
func (x *Node) chosen(m api.Msg) []api.Msg {
	if x.role != api.Candidate || m.Term != x.log.Term() || !m.OK {
		return nil
	}
	x.nodes[m.From].voted = true
	if !x.elected() {
		return nil
	}
	return x.win()
}

// led: by somebody who takes itself for the leader.
func (x *Node) led(m api.Msg) []api.Msg {
	if m.Term < x.log.Term() {
		return x.answer(m.From, false, 0)
	}
	if x.role == api.Leader {
		return nil
	}
	x.role, x.leader, x.patience = api.Follower, m.From, 0
	if m.Kind == api.Snap {
		return x.install(m)
	}
	return x.take(m)
}

// answer: to a leader, whether its log is that of the leader up to an index, or might be.
func (x *Node) answer(to int, ok bool, index uint64) []api.Msg {
	m := x.msg(api.Appended, to)
	m.OK, m.Index = ok, index
	return []api.Msg{m}
}

// take: the leader's entries behind an index, if the logs are the same up to it.
func (x *Node) take(m api.Msg) []api.Msg {
	index, entries := m.Index, m.Entries
	base, _, _ := x.log.Base()
	if index < base {
		if uint64(len(entries)) < base-index {
			return x.answer(m.From, true, base)
		}
		index, entries = base, entries[base-index:]
	} else if term, ok := x.log.TermAt(index); !ok || term != m.LogTerm {
		return x.answer(m.From, false, min(x.log.Last(), max(index, 1)-1))
	}
	if !x.keep(index, entries) {
		return nil
	}
	last := index + uint64(len(entries))
	x.commit = max(x.commit, min(m.Commit, last))
	return x.answer(m.From, true, last)
}

// keep: whether the entries stand in its log behind that index. What is agreed on isn't given up for them.
func (x *Node) keep(behind uint64, entries []api.Entry) bool {
	for i, e := range entries {
		index := behind + uint64(i) + 1
		term, there := x.log.TermAt(index)
		if there && term == e.Term {
			continue
		}
		if there && index <= x.commit {
			return false
		}
		return x.log.Add(index-1, entries[i:]...) == api.OK
	}
	return true
}

// install: the leader's state, if that is of more than what is agreed on here.
func (x *Node) install(m api.Msg) []api.Msg {
	if m.Index > x.commit {
		if x.log.Install(m.Index, m.LogTerm, m.State) != api.OK {
			return nil
		}
		x.commit = m.Index
	}
	return x.answer(m.From, true, x.commit)
}

// told: how far a node's log is its own.
func (x *Node) told(m api.Msg) []api.Msg {
	if x.role != api.Leader || m.Term != x.log.Term() {
		return nil
	}
	p := &x.nodes[m.From]
	if !m.OK {
		p.ahead = max(min(max(p.ahead, 1)-1, m.Index), p.match)
		return []api.Msg{x.feed(m.From)}
	}
	p.match = max(p.match, min(m.Index, x.log.Last()))
	p.ahead = p.match
	x.count()
	if p.ahead >= x.log.Last() {
		return nil
	}
	return []api.Msg{x.feed(m.From)}
}
