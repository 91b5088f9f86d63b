package raft

import (
	"fmt"
	"math/big"
	"slices"

	"vidimus/api"
	"vidimus/log"
)

// model: a node in the chapter's plainest words, without a disk, for numbers below the greatest one.
type model struct {
	id, n          int
	term           uint64
	vote           int
	base, baseTerm uint64
	state          string
	entries        []api.Entry

	role, leader int
	commit       uint64
	patience     int
	votes        map[int]bool
	next, match  map[int]uint64

	trail []string // what the log told ahead of the last call, and behind each change of it in that
}

// modelOf: what a node on that log starts as.
func modelOf(id, n int, l *log.Log) *model {
	m := &model{id: id, n: n, term: l.Term(), vote: l.Vote(), leader: api.Nobody}
	m.base, m.baseTerm, m.state = l.Base()
	for i := range l.Last() - m.base {
		e, _ := l.At(m.base + 1 + i)
		m.entries = append(m.entries, e)
	}
	m.commit = m.base
	return m
}

// kept: what the log tells.
func (m *model) kept() string {
	return fmt.Sprintf("term %d, vote %d, base %d of %d %q, entries %v", m.term, m.vote, m.base, m.baseTerm, m.state, slices.Clip(m.entries))
}

// tell: what the node and its log tell.
func (m *model) tell() string {
	return fmt.Sprintf("role %d, leader %d, commit %d, %s", m.role, m.leader, m.commit, m.kept())
}

// keptOf: what that log tells.
func keptOf(l *log.Log) string {
	return modelOf(0, 1, l).kept()
}

// tellOf: what that node tells.
func tellOf(x *Node) string {
	return fmt.Sprintf("role %d, leader %d, commit %d, %s", x.Role(), x.Leader(), x.Commit(), keptOf(x.Log()))
}

func (m *model) last() uint64 { return m.base + uint64(len(m.entries)) }

func (m *model) termAt(index uint64) (uint64, bool) {
	switch {
	case index == m.base:
		return m.baseTerm, true
	case index < m.base || index > m.last():
		return 0, false
	}
	return m.entries[index-m.base-1].Term, true
}

// changed: the log has changed.
func (m *model) changed() { m.trail = append(m.trail, m.kept()) }

func (m *model) setTerm(term uint64, vote int) {
	m.term, m.vote = term, vote
	m.changed()
}

func (m *model) add(behind uint64, entries ...api.Entry) {
	m.entries = append(slices.Clone(m.entries[:behind-m.base]), entries...)
	m.changed()
}

func (m *model) rebase(index, term uint64, state string) {
	if own, ok := m.termAt(index); ok && own == term {
		m.entries = slices.Clone(m.entries[index-m.base:])
	} else {
		m.entries = nil
	}
	m.base, m.baseTerm, m.state = index, term, state
	m.changed()
}

// limit: worked out by numbers without an end.
func (m *model) limit() int {
	n := new(big.Int).SetUint64(m.term)
	n.Mul(n, big.NewInt(3))
	n.Add(n, big.NewInt(int64(7*m.id)))
	n.Mod(n, big.NewInt(11))
	return 10 + int(n.Int64())
}

func (m *model) most(votes int) bool { return 2*votes > m.n }

func (m *model) others(made func(to int) api.Msg) []api.Msg {
	var out []api.Msg
	for to := range m.n {
		if to != m.id {
			out = append(out, made(to))
		}
	}
	return out
}

func (m *model) tick() []api.Msg {
	m.patience++
	if m.role == api.Leader {
		if m.patience < 3 {
			return nil
		}
		m.patience = 0
		return m.others(m.feed)
	}
	if m.patience < m.limit() {
		return nil
	}
	return m.stand()
}

func (m *model) stand() []api.Msg {
	m.setTerm(m.term+1, m.id)
	m.role, m.leader = api.Candidate, api.Nobody
	m.votes = map[int]bool{m.id: true}
	m.patience = 0
	if m.most(len(m.votes)) {
		return m.win()
	}
	return m.others(func(to int) api.Msg {
		term, _ := m.termAt(m.last())
		return askVote(m.id, to, m.term, m.last(), term)
	})
}

func (m *model) win() []api.Msg {
	m.role, m.leader = api.Leader, m.id
	m.next, m.match = map[int]uint64{}, map[int]uint64{}
	for i := range m.n {
		m.next[i] = m.last() + 1
	}
	m.patience = 0
	m.add(m.last(), api.Entry{Term: m.term})
	m.count()
	return m.others(m.feed)
}

func (m *model) feed(to int) api.Msg {
	if m.next[to] <= m.base {
		return snap(m.id, to, m.term, m.base, m.baseTerm, m.state)
	}
	behind := m.next[to] - 1
	term, _ := m.termAt(behind)
	entries := slices.Clone(m.entries[behind-m.base:])
	return appendMsg(m.id, to, m.term, behind, term, m.commit, entries[:min(len(entries), 8)]...)
}

func (m *model) count() {
	for index := m.last(); index > m.commit; index-- {
		reach := 1
		for i := range m.n {
			if i != m.id && m.match[i] >= index {
				reach++
			}
		}
		if !m.most(reach) {
			continue
		}
		if term, _ := m.termAt(index); term == m.term {
			m.commit = index
		}
		return
	}
}

func (m *model) propose(cmd string) (uint64, uint64, []api.Msg) {
	if m.role != api.Leader {
		return 0, 0, nil
	}
	m.add(m.last(), api.Entry{Term: m.term, Cmd: cmd})
	m.count()
	return m.last(), m.term, m.others(m.feed)
}

func (m *model) compact(index uint64, state string) api.Errno {
	if index > m.commit || index < m.base {
		return api.ErrArg
	}
	m.rebase(index, must(m.termAt(index)), state)
	return api.OK
}

func must(n uint64, ok bool) uint64 {
	if !ok {
		panic("nothing there")
	}
	return n
}

func (m *model) receive(g api.Msg) []api.Msg {
	if g.To != m.id || g.From == m.id || g.From < 0 || g.From >= m.n {
		return nil
	}
	if g.Term > m.term {
		m.setTerm(g.Term, api.Nobody)
		m.role, m.leader = api.Follower, api.Nobody
	}
	switch g.Kind {
	case api.AskVote:
		own := must(m.termAt(m.last()))
		worse := own < g.LogTerm || own == g.LogTerm && m.last() <= g.Index
		ok := g.Term == m.term && m.role == api.Follower && (m.vote == api.Nobody || m.vote == g.From) && worse
		if ok {
			m.setTerm(m.term, g.From)
			m.patience = 0
		}
		return list(vote(m.id, g.From, m.term, ok))
	case api.Vote:
		if m.role == api.Candidate && g.Term == m.term && g.OK {
			m.votes[g.From] = true
			if m.most(len(m.votes)) {
				return m.win()
			}
		}
	case api.Append, api.Snap:
		return m.led(g)
	case api.Appended:
		if m.role == api.Leader && g.Term == m.term {
			return m.heard(g)
		}
	}
	return nil
}

func (m *model) led(g api.Msg) []api.Msg {
	if g.Term < m.term {
		return list(appended(m.id, g.From, m.term, false, 0))
	}
	if m.role == api.Leader {
		return nil
	}
	m.role, m.leader, m.patience = api.Follower, g.From, 0
	if g.Kind == api.Snap {
		if g.Index > m.commit {
			m.rebase(g.Index, g.LogTerm, g.State)
			m.commit = g.Index
		}
		return list(appended(m.id, g.From, m.term, true, m.commit))
	}
	index, entries := g.Index, g.Entries
	if index < m.base {
		for ; index < m.base; index++ {
			if len(entries) == 0 {
				return list(appended(m.id, g.From, m.term, true, m.base))
			}
			entries = entries[1:]
		}
	} else if term, ok := m.termAt(index); !ok || term != g.LogTerm {
		if index > 0 {
			index--
		}
		return list(appended(m.id, g.From, m.term, false, min(m.last(), index)))
	}
	for i, e := range entries {
		at := index + uint64(i) + 1
		if term, ok := m.termAt(at); ok && term == e.Term {
			continue
		}
		if at <= m.last() && at <= m.commit {
			return nil
		}
		m.add(at-1, entries[i:]...)
		break
	}
	last := index + uint64(len(entries))
	if to := min(g.Commit, last); to > m.commit {
		m.commit = to
	}
	return list(appended(m.id, g.From, m.term, true, last))
}

func (m *model) heard(g api.Msg) []api.Msg {
	if g.OK {
		m.match[g.From] = max(m.match[g.From], min(g.Index, m.last()))
		m.next[g.From] = m.match[g.From] + 1
		m.count()
		if m.next[g.From] > m.last() {
			return nil
		}
		return list(m.feed(g.From))
	}
	next := m.next[g.From] - 1
	if g.Index < next {
		next = min(next, g.Index+1)
	}
	m.next[g.From] = max(next, 1, m.match[g.From]+1)
	return list(m.feed(g.From))
}
