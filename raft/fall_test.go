package raft

import (
	"math"
	"slices"
	"testing"

	"vidimus/api"
	"vidimus/disk"
	"vidimus/log"
)

// silent: a node that is down sends nothing and does nothing, whatever is done to it.
func (p *pair) silent() {
	p.t.Helper()
	x, id, n := p.x, p.m.id, p.m.n
	was := tellOf(x)
	for range 25 {
		sent(p.t, x.Tick())
	}
	for kind := range 5 {
		for _, term := range []uint64{0, x.Log().Term(), x.Log().Term() + 1} {
			sent(p.t, x.Receive(api.Msg{Kind: kind, From: (id + 1) % n, To: id, Term: term, Index: x.Log().Last(), LogTerm: term, OK: true, Commit: greatest, Entries: run(0, term)}))
		}
	}
	index, term, l := x.Propose("c")
	right(p.t, x.Compact(x.Commit(), "S"), api.ErrDown)
	right(p.t, x.Compact(greatest, "S"), api.ErrDown)
	if got := tellOf(x); got != was || index != 0 || term != 0 || len(l) > 0 || !x.Down() {
		p.t.Fatalf("%d, %d, %v, %s; it was %s", index, term, l, got, was)
	}
}

// restarted: behind a crash, a node on what the disk kept: its log is as it was, or as it would have been behind a change of the call in which it went down; its term hasn't gone back, nor has its vote changed in one.
func (p *pair) restarted(keep int) *pair {
	p.t.Helper()
	was := []string{keptOf(p.x.Log())}
	if p.x.Down() {
		was = p.m.trail[slices.Index(p.m.trail, was[0]):]
	}
	p.d.Crash(keep)
	l, err := log.Open(p.d)
	right(p.t, err, api.OK)
	if got := keptOf(l); !slices.Contains(was, got) {
		p.t.Fatalf("%s; asked for one of %q", got, was)
	}
	term, vote := p.x.Log().Term(), p.x.Log().Vote()
	if l.Term() < term || l.Term() == term && vote != nobody && l.Vote() != vote {
		p.t.Fatalf("term %d, vote %d; it was %d, %d", l.Term(), l.Vote(), term, vote)
	}
	return startOn(p.t, p.m.id, p.m.n, p.d, l)
}

// move: a node, and a call of it that changes its log.
type move struct {
	name string
	made func() *pair
	do   func(p *pair) []api.Msg
}

// receives: a move of the node 1 of 3 in that role, that is told this.
func receives(t *testing.T, name string, role int, g api.Msg) move {
	return move{name, func() *pair { return inRole(t, role) }, func(p *pair) []api.Msg { return p.receive(g) }}
}

func moves(t *testing.T) []move {
	out := []move{
		receives(t, "AskVote", api.Follower, askVote(0, 1, 5, 2, 4)),
		receives(t, "Append", api.Follower, appendMsg(0, 1, 5, 2, 4, 3, run(2, 5, 5)...)),
		receives(t, "Append of other terms", api.Follower, appendMsg(0, 1, 5, 0, 0, 3, run(0, 3, 3, 3)...)),
		receives(t, "Append to a candidate", api.Candidate, appendMsg(0, 1, 5, 2, 4, 3, run(2, 5, 5)...)),
		receives(t, "Snap", api.Follower, snap(0, 1, 5, 2, 4, "newer")),
		receives(t, "Snap past the end", api.Follower, snap(0, 1, 5, 9, 5, "newer")),
		receives(t, "Snap to a candidate", api.Candidate, snap(0, 1, 5, 9, 5, "newer")),
		receives(t, "Vote", api.Candidate, vote(0, 1, 5, true)),
	}
	for _, role := range []int{api.Follower, api.Candidate, api.Leader} {
		out = append(out,
			receives(t, "AskVote of a greater term", role, askVote(0, 1, 6, 9, 9)),
			receives(t, "AskVote of a greater term, worse", role, askVote(0, 1, 6, 0, 0)),
			receives(t, "Vote of a greater term", role, vote(0, 1, 6, true)),
			receives(t, "Append of a greater term", role, appendMsg(0, 1, 6, 2, 4, 2, run(2, 6)...)),
			receives(t, "Append of a greater term, without entries", role, appendMsg(0, 1, 6, 2, 4, 2)),
			receives(t, "Append of a greater term, elsewhere", role, appendMsg(0, 1, 6, 7, 4, 2)),
			receives(t, "Snap of a greater term", role, snap(0, 1, 6, 9, 5, "newer")),
			receives(t, "Appended of a greater term", role, appended(0, 1, 6, true, 2)),
			receives(t, "no kind, of a greater term", role, api.Msg{Kind: 9, From: 0, To: 1, Term: 6}),
		)
	}
	ticks := func(p *pair) []api.Msg { return p.tick() }
	proposes := func(p *pair) []api.Msg {
		_, _, l := p.propose("command")
		return l
	}
	return append(out,
		move{"Tick of a follower", func() *pair { return atLimit(start(t, 1, 3, of(5, 3, 4))) }, ticks},
		move{"Tick of a candidate", func() *pair { return atLimit(candidate(t, 1, 3, of(4, 3, 4))) }, ticks},
		move{"Tick of one alone", func() *pair { return atLimit(start(t, 0, 1, of(5, 3, 4))) }, ticks},
		move{"Propose", func() *pair { return inRole(t, api.Leader) }, proposes},
		move{"Propose to one alone", func() *pair { return first(leader(t, 0, 1, of(4, 3, 4))) }, proposes},
		move{"Compact", func() *pair { return committed(t, of(5, 3, 4), 2) }, func(p *pair) []api.Msg {
			p.compact(1, "newer")
			return nil
		}},
	)
}

// atLimit: one tick below it.
func atLimit(p *pair) *pair {
	p.ticks(p.m.limit() - 1)
	return p
}

// fallen: the move is done, with so many steps of the disk.
func (m move) fallen(steps int) (*pair, []api.Msg) {
	p := m.made()
	p.d.Fuel(steps)
	return p, m.do(p)
}

// P9.1, P0.2: the disk goes down at each step of each call: nothing is sent, nothing is done from then on; behind the crash, with each tear, the node starts on what was or would have been, and does that call again.
func TestFallAtEachStep(t *testing.T) {
	for _, m := range moves(t) {
		t.Run(m.name, func(t *testing.T) {
			for steps := 0; ; steps++ {
				p, l := m.fallen(steps)
				if !p.x.Down() {
					if steps == 0 {
						t.Error("nothing is made sure")
					}
					break
				}
				sent(t, l)
				p.silent()
				for keep := range p.d.Waits() + 2 {
					p, _ = m.fallen(steps)
					q := p.restarted(keep)
					p.silent()
					q.votesOnce()
				}
				p, _ = m.fallen(steps)
				m.again(p.restarted(math.MaxInt))
			}
		})
	}
}

// again: whoever was started anew is told what it was told, and what others may tell it then, beside its model.
func (m move) again(p *pair) {
	p.t.Helper()
	m.do(p)
	p.stands()
	m.do(p)
}

// votesOnce: behind a start anew it votes for none but whom it voted for in its term, and for one in a term.
func (p *pair) votesOnce() {
	p.t.Helper()
	if p.m.n < 3 {
		return
	}
	term, given := p.m.term, p.m.vote
	for from := range p.m.n {
		if from == p.m.id {
			continue
		}
		ok := given == nobody || given == from
		sent(p.t, p.receive(askVote(from, p.m.id, term, greatest, greatest)), vote(p.m.id, from, term, ok))
		if ok {
			given = from
		}
	}
}

// P0.2: a vote that was sent counts behind a crash: nobody else gets one in that term, and who got it may be told again.
func TestVoteBehindCrash(t *testing.T) {
	for keep := -1; keep < 100; keep++ {
		p := start(t, 1, 3, of(5, 3, 4))
		sent(t, p.receive(askVote(2, 1, 7, 2, 4)), vote(1, 2, 7, true))
		p = p.restarted(keep)
		sent(t, p.receive(askVote(0, 1, 7, 2, 4)), vote(1, 0, 7, false))
		sent(t, p.receive(askVote(0, 1, 6, 2, 4)), vote(1, 0, 7, false))
		sent(t, p.receive(askVote(2, 1, 7, 2, 4)), vote(1, 2, 7, true))
		// nor does one vote for others that stood itself
		p = start(t, 1, 3, of(5, 3, 4))
		p.stands()
		p = p.restarted(keep)
		sent(t, p.receive(askVote(0, 1, 6, 2, 4)), vote(1, 0, 6, false))
		sent(t, p.receive(askVote(2, 1, 6, 2, 4)), vote(1, 2, 6, false))
		sent(t, p.receive(vote(0, 1, 6, true)))
		if p.x.Role() != api.Follower {
			t.Error(tellOf(p.x))
		}
	}
}

// P0.2: what was answered is there behind a crash: entries, commands, states.
func TestAnswersBehindCrash(t *testing.T) {
	for keep := -1; keep < 100; keep++ {
		p := start(t, 1, 3, of(5, 3, 4))
		sent(t, p.receive(appendMsg(0, 1, 6, 1, 3, 3, run(1, 6, 6)...)), appended(1, 0, 6, true, 3))
		p = p.restarted(keep)
		p.holds(3, 6, 6)
		if p.x.Commit() != 0 || p.x.Log().Term() != 6 {
			t.Error(tellOf(p.x))
		}
		sent(t, p.receive(snap(0, 1, 6, 7, 6, "S")), appended(1, 0, 6, true, 7))
		p = p.restarted(keep)
		if base, term, state := p.x.Log().Base(); base != 7 || term != 6 || state != "S" || p.x.Commit() != 7 {
			t.Error(tellOf(p.x))
		}
		p, _ = leader(t, 1, 3, of(5, 3, 4))
		p.propose("c")
		p = p.restarted(keep)
		p.holds(3, 4, 6, 6)
	}
}

// P9.1: a disk that went down at somebody else's hands, and a log that told somebody else so.
func TestDownByOthers(t *testing.T) {
	for _, role := range []int{api.Follower, api.Candidate, api.Leader} {
		p := inRole(t, role)
		p.d.Fuel(0)
		if p.x.Down() {
			t.Error("down ahead of a step")
		}
		right(t, p.d.Sync(), api.ErrDown)
		if !p.x.Down() {
			t.Error("up")
		}
		p.silent()
		p.d.Crash(0)
		p.silent()
		p = inRole(t, role)
		p.d.Fuel(0)
		right(t, p.x.Log().Add(2, run(2, 5)...), api.ErrDown)
		p.d.Crash(0)
		p.silent()
		p = inRole(t, role)
		p.d.Fuel(0)
		right(t, p.d.Sync(), api.ErrDown)
		p.x.Tick()
		p.d.Crash(0)
		p.silent()
	}
}

// P9.1: a disk without a step left doesn't hinder what needs none.
func TestNeedsNoStep(t *testing.T) {
	p := start(t, 1, 3, of(5, 3, 4))
	p.d.Fuel(0)
	p.ticks(9)
	sent(t, p.receive(appendMsg(0, 1, 5, 2, 4, 2)), appended(1, 0, 5, true, 2))
	sent(t, p.receive(appendMsg(0, 1, 5, 0, 0, 2, run(0, 3, 4)...)), appended(1, 0, 5, true, 2))
	sent(t, p.receive(appendMsg(0, 1, 5, 4, 4, 2)), appended(1, 0, 5, false, 2))
	sent(t, p.receive(snap(0, 1, 5, 2, 4, "S")), appended(1, 0, 5, true, 2))
	sent(t, p.receive(askVote(2, 1, 5, 1, 4)), vote(1, 2, 5, false))
	right(t, p.compact(3, "S"), api.ErrArg)
	p = inRole(t, api.Leader)
	p.d.Fuel(0)
	p.ticks(2)
	if l := p.tick(); len(l) != 2 {
		t.Error(l)
	}
	sent(t, p.receive(appended(0, 1, 5, true, 3)))
	if p.x.Commit() != 3 || p.x.Down() {
		t.Error(tellOf(p.x))
	}
}

// P9.1: a log that stands behind a base and has a term and a vote, as a node starts on it anew and anew.
func TestStartsAnew(t *testing.T) {
	d := disk.New()
	l := behind(4, 2, 7, 3, 7).voted(2).open(t, d)
	p := startOn(t, 1, 3, d, l)
	for range 3 {
		p = p.restarted(0)
		if p.x.Commit() != 4 || p.x.Role() != api.Follower || p.x.Leader() != nobody || p.x.Log().Term() != 7 || p.x.Log().Vote() != 2 || p.x.Log().Last() != 6 {
			t.Error(tellOf(p.x))
		}
		sent(t, p.receive(appendMsg(2, 1, 7, 6, 7, 6)), appended(1, 2, 7, true, 6))
		if p.x.Commit() != 6 {
			t.Error(tellOf(p.x))
		}
	}
}
