package raft

import (
	"slices"

	"vidimus/api"
)

// limit: how much patience it has in its term.
func (x *Node) limit() int {
	// three times the greatest terms would be past the greatest number: what is left of them by 11 does as well
	return 10 + (7*x.id+3*int(x.log.Term()%11))%11
}

// majority: the fewest nodes that are more than half of them.
func (x *Node) majority() int {
	return len(x.nodes)/2 + 1
}

// msg: a message of that kind to that node, without what only some kinds have.
func (x *Node) msg(kind, to int) api.Msg {
	return api.Msg{Kind: kind, From: x.id, To: to, Term: x.log.Term()}
}

// toAll: what is made for each other node, by rising numbers.
func (x *Node) toAll(made func(to int) api.Msg) []api.Msg {
	var out []api.Msg
	for to := range x.nodes {
		if to != x.id {
			out = append(out, made(to))
		}
	}
	return out
}

// join: whether it takes part in that greater term, as a follower that voted for nobody.
func (x *Node) join(term uint64) bool {
	if x.log.SetTerm(term, api.Nobody) != api.OK {
		return false
	}
	x.role, x.leader = api.Follower, api.Nobody
	return true
}

// stand: it asks for votes in a new term. Above the greatest one there is none: then it stays as it is.
func (x *Node) stand() []api.Msg {
	if x.log.SetTerm(x.log.Term()+1, x.id) != api.OK {
		return nil
	}
	x.role, x.leader, x.patience = api.Candidate, api.Nobody, 0
	clear(x.nodes)
	x.nodes[x.id].voted = true
	if x.elected() {
		return x.win()
	}
	return x.toAll(x.ask)
}

// ask: the message that asks a node for its vote.
func (x *Node) ask(to int) api.Msg {
	m := x.msg(api.AskVote, to)
	m.Index = x.log.Last()
	m.LogTerm, _ = x.log.TermAt(m.Index)
	return m
}

// elected: whether a majority voted for it.
func (x *Node) elected() bool {
	votes := 0
	for _, p := range x.nodes {
		if p.voted {
			votes++
		}
	}
	return votes >= x.majority()
}

// win: it leads its term, and says so by an entry of it, behind which elder ones may be counted.
func (x *Node) win() []api.Msg {
	x.role, x.leader, x.patience = api.Leader, x.id, 0
	for i := range x.nodes {
		x.nodes[i] = peer{ahead: x.log.Last()}
	}
	// a log up to the greatest index takes no entry: it leads without one
	if x.add("") == api.ErrDown {
		return nil
	}
	x.count()
	return x.feedAll()
}

// add: its log has an entry more, of its term.
func (x *Node) add(cmd string) api.Errno {
	return x.log.Add(x.log.Last(), api.Entry{Term: x.log.Term(), Cmd: cmd})
}

// count: up to where a majority has its entries is agreed on, if an entry of its own term is the last of these.
func (x *Node) count() {
	reach := make([]uint64, len(x.nodes))
	for i, p := range x.nodes {
		reach[i] = p.match
	}
	reach[x.id] = x.log.Last()
	slices.Sort(reach)
	index := reach[len(reach)-x.majority()]
	if term, ok := x.log.TermAt(index); ok && index > x.commit && term == x.log.Term() {
		x.commit = index
	}
}

// feedAll: what each other node lacks, as far as it knows.
func (x *Node) feedAll() []api.Msg {
	return x.toAll(x.feed)
}

// feed: the message that tells a node what it lacks: the state of the base, or entries.
func (x *Node) feed(to int) api.Msg {
	ahead := x.nodes[to].ahead
	base, term, state := x.log.Base()
	if ahead < base {
		m := x.msg(api.Snap, to)
		m.Index, m.LogTerm, m.State = base, term, state
		return m
	}
	m := x.msg(api.Append, to)
	m.Index, m.Commit = ahead, x.commit
	m.LogTerm, _ = x.log.TermAt(ahead)
	for index := ahead + 1; len(m.Entries) < batch; index++ {
		e, ok := x.log.At(index)
		if !ok {
			break
		}
		m.Entries = append(m.Entries, e)
	}
	return m
}
