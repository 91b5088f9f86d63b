package raft

import (
	"testing"

	"vidimus/api"
	"vidimus/disk"
)

// P9.1: whom a follower gives its vote to, by the term, by the vote that it gave, and by the logs.
func TestAskVote(t *testing.T) {
	rows := []struct {
		name string
		k    kept
		g    api.Msg
		ok   bool
	}{
		{"new logs", empty(), askVote(2, 1, 0, 0, 0), true},
		{"new logs, greater term", empty(), askVote(2, 1, 1, 0, 0), true},
		{"voted for nobody", of(5, 3, 4), askVote(2, 1, 5, 2, 4), true},
		{"voted for it", of(5, 3, 4).voted(2), askVote(2, 1, 5, 2, 4), true},
		{"voted for another one", of(5, 3, 4).voted(0), askVote(2, 1, 5, 2, 4), false},
		{"voted for itself", of(5, 3, 4).voted(1), askVote(2, 1, 5, 2, 4), false},
		{"voted for none of the n", of(5, 3, 4).voted(7), askVote(2, 1, 5, 2, 4), false},
		{"lesser term", of(5, 3, 4), askVote(2, 1, 4, 9, 9), false},
		{"term 0", of(5, 3, 4), askVote(2, 1, 0, 9, 9), false},
		{"lesser term, voted for it", of(5, 3, 4).voted(2), askVote(2, 1, 4, 9, 9), false},
		{"greater term", of(5, 3, 4), askVote(2, 1, 6, 2, 4), true},
		{"greater term, voted for another one", of(5, 3, 4).voted(0), askVote(2, 1, 6, 2, 4), true},
		{"greatest term", of(5, 3, 4).voted(0), askVote(2, 1, greatest, 2, 4), true},
		{"longer log", of(5, 3, 4), askVote(2, 1, 5, 3, 4), true},
		{"shorter log", of(5, 3, 4), askVote(2, 1, 5, 1, 4), false},
		{"log of a greater term", of(5, 3, 4), askVote(2, 1, 5, 2, 5), true},
		{"shorter log of a greater term", of(5, 3, 4), askVote(2, 1, 5, 0, 5), true},
		{"log of a lesser term", of(5, 3, 4), askVote(2, 1, 5, 2, 3), false},
		{"longer log of a lesser term", of(5, 3, 4), askVote(2, 1, 5, greatest, 3), false},
		{"greatest numbers", of(5, 3, 4), askVote(2, 1, 5, greatest, greatest), true},
		{"greater term, shorter log", of(5, 3, 4), askVote(2, 1, 6, 1, 4), false},
		{"greater term, log of a lesser term", of(5, 3, 4), askVote(2, 1, 6, 9, 3), false},
		{"at the base", behind(7, 4, 5), askVote(2, 1, 5, 7, 4), true},
		{"below the base", behind(7, 4, 5), askVote(2, 1, 5, 6, 4), false},
		{"above the base", behind(7, 4, 5), askVote(2, 1, 5, 8, 4), true},
		{"base of a greater term", behind(7, 4, 5), askVote(2, 1, 5, 9, 3), false},
		{"base of a lesser term", behind(7, 4, 5), askVote(2, 1, 5, 0, 5), true},
		{"term of the last entry, not the greatest", of(5, 4, 3), askVote(2, 1, 5, 2, 3), true},
		{"greatest index", behind(greatest, 4, 5), askVote(2, 1, 5, greatest-1, 4), false},
	}
	for _, row := range rows {
		t.Run(row.name, func(t *testing.T) {
			p := start(t, 1, 3, row.k)
			term := max(row.k.term, row.g.Term)
			sent(t, p.receive(row.g), vote(1, 2, term, row.ok))
			want := nobody
			switch {
			case row.ok:
				want = 2
			case term == row.k.term:
				want = row.k.vote
			}
			if p.x.Log().Vote() != want || p.x.Log().Term() != term || p.x.Role() != api.Follower || p.x.Leader() != nobody {
				t.Error(tellOf(p.x))
			}
			// once more it is answered the same
			sent(t, p.receive(row.g), vote(1, 2, term, row.ok))
			if row.ok {
				// and no other one gets a vote in that term
				sent(t, p.receive(askVote(0, 1, term, greatest, greatest)), vote(1, 0, term, false))
			}
		})
	}
}

// P9.1: a candidate and a leader vote for none in their term, nor do they in a lesser one; in a greater one they do.
func TestAskVoteOthers(t *testing.T) {
	for _, role := range []int{api.Candidate, api.Leader} {
		p := inRole(t, role)
		was := tellOf(p.x)
		sent(t, p.receive(askVote(2, 1, 5, 9, 9)), vote(1, 2, 5, false))
		sent(t, p.receive(askVote(2, 1, 4, 9, 9)), vote(1, 2, 5, false))
		if got := tellOf(p.x); got != was {
			t.Errorf("%s; it was %s", got, was)
		}
		sent(t, p.receive(askVote(2, 1, 6, 9, 9)), vote(1, 2, 6, true))
		if p.x.Role() != api.Follower || p.x.Log().Vote() != 2 || p.x.Log().Term() != 6 {
			t.Error(tellOf(p.x))
		}
		// one whose log is worse isn't voted for, but its term is taken on
		p = inRole(t, role)
		sent(t, p.receive(askVote(2, 1, 6, 1, 4)), vote(1, 2, 6, false))
		if p.x.Role() != api.Follower || p.x.Log().Vote() != nobody || p.x.Log().Term() != 6 {
			t.Error(tellOf(p.x))
		}
	}
}

// P9.1: a follower that follows somebody votes still, if it voted for nobody, and takes the leader for that still.
func TestAskVoteOfFollower(t *testing.T) {
	p := start(t, 1, 3, of(5))
	p.receive(appendMsg(0, 1, 5, 0, 0, 0))
	sent(t, p.receive(askVote(2, 1, 5, 0, 0)), vote(1, 2, 5, true))
	if p.x.Leader() != 0 {
		t.Error(tellOf(p.x))
	}
}

// P9.1: with the vote that makes the majority it wins, with the one before it doesn't: of each n, whoever votes first.
func TestVotes(t *testing.T) {
	for n := 2; n <= 9; n++ {
		for id := range n {
			p := candidate(t, id, n, of(2, 1, 2))
			votes := 1
			for i := range n {
				from := (i + id + 1) % n
				if from == id {
					continue
				}
				votes++
				l := p.receive(vote(from, id, 3, true))
				if wins := votes == n/2+1; wins != (len(l) == n-1) || !wins && len(l) > 0 {
					t.Errorf("%d votes of %d: %v", votes, n, l)
				}
				if leads := 2*votes > n; leads != (p.x.Role() == api.Leader) || leads != (p.x.Leader() == id) {
					t.Errorf("%d votes of %d: %s", votes, n, tellOf(p.x))
				}
			}
		}
	}
}

// P9.1: votes that are none: not OK, of another term, of a node that voted already, of itself.
func TestVotesThatAreNone(t *testing.T) {
	p := candidate(t, 1, 5, of(4))
	was := tellOf(p.x)
	for range 2 {
		sent(t, p.receive(vote(0, 1, 5, true)))
	}
	for from := range 6 {
		sent(t, p.receive(vote(from, 1, 5, false)))
		sent(t, p.receive(vote(from, 1, 4, true)))
		sent(t, p.receive(vote(from, 1, 0, true)))
	}
	for _, from := range []int{-1, 0, 1, 5, 9} {
		sent(t, p.receive(vote(from, 1, 5, true)))
	}
	if got := tellOf(p.x); got != was {
		t.Errorf("%s; it was %s", got, was)
	}
	if l := p.receive(vote(4, 1, 5, true)); len(l) != 4 || p.x.Role() != api.Leader {
		t.Errorf("%v, %s", l, tellOf(p.x))
	}
	// of a greater term it is none either, but ends the standing
	p = candidate(t, 1, 3, of(4))
	sent(t, p.receive(vote(0, 1, 6, true)))
	sent(t, p.receive(vote(0, 1, 6, true)))
	if p.x.Role() != api.Follower || p.x.Log().Term() != 6 {
		t.Error(tellOf(p.x))
	}
}

// P9.1: votes of a term that ended don't count in the next one.
func TestVotesOfEarlierTerm(t *testing.T) {
	p := candidate(t, 1, 5, of(4))
	sent(t, p.receive(vote(0, 1, 5, true)))
	p.stands()
	sent(t, p.receive(vote(2, 1, 6, true)))
	sent(t, p.receive(vote(0, 1, 5, true)))
	if p.x.Role() != api.Candidate {
		t.Error(tellOf(p.x))
	}
	if l := p.receive(vote(0, 1, 6, true)); len(l) != 4 || p.x.Role() != api.Leader {
		t.Errorf("%v, %s", l, tellOf(p.x))
	}
}

// P9.1: a vote to a follower, one that stood and followed again too, and to a leader, is nothing.
func TestVoteToOthers(t *testing.T) {
	stood := candidate(t, 1, 3, of(4, 3, 4))
	stood.receive(appendMsg(2, 1, 5, 2, 4, 0))
	for _, p := range []*pair{inRole(t, api.Follower), inRole(t, api.Leader), stood, start(t, 1, 3, of(5).voted(1))} {
		was := tellOf(p.x)
		for _, from := range []int{0, 2} {
			sent(t, p.receive(vote(from, 1, 5, true)))
			sent(t, p.receive(vote(from, 1, 5, false)))
		}
		if got := tellOf(p.x); got != was {
			t.Errorf("%s; it was %s", got, was)
		}
	}
}

// P9.1: who wins has an entry more, of its term, without a command, and feeds all others by rising numbers; nothing elder is agreed on by that.
func TestWins(t *testing.T) {
	p, l := leader(t, 2, 4, behind(3, 1, 4, 2, 4))
	none := api.Entry{Term: 5}
	sent(t, l, appendMsg(2, 0, 5, 5, 4, 3, none), appendMsg(2, 1, 5, 5, 4, 3, none), appendMsg(2, 3, 5, 5, 4, 3, none))
	if e, ok := p.x.Log().At(6); e != none || !ok || p.x.Log().Last() != 6 || p.x.Leader() != 2 || p.x.Commit() != 3 || p.x.Log().Vote() != 2 {
		t.Error(tellOf(p.x))
	}
	// on a base alone
	_, l = leader(t, 1, 2, behind(3, 1, 4))
	sent(t, l, appendMsg(1, 0, 5, 3, 1, 3, none))
}

// R6: a log up to the greatest index takes no entry: who wins on it leads without one, and no command is taken.
func TestWinsAtGreatestIndex(t *testing.T) {
	x, err := Start(1, 3, behind(greatest, 4, 4).open(t, disk.New()))
	right(t, err, api.OK)
	for x.Role() != api.Candidate {
		x.Tick()
	}
	sent(t, x.Receive(vote(0, 1, 5, true)), appendMsg(1, 0, 5, greatest, 4, greatest), appendMsg(1, 2, 5, greatest, 4, greatest))
	if x.Role() != api.Leader || x.Leader() != 1 || x.Log().Last() != greatest || x.Commit() != greatest || x.Down() {
		t.Error(tellOf(x))
	}
	if index, term, l := x.Propose("c"); index != 0 || term != 0 || len(l) != 0 || x.Role() != api.Leader || x.Down() {
		t.Errorf("%d, %d, %v", index, term, l)
	}
	sent(t, x.Receive(appended(0, 1, 5, true, greatest)))
	sent(t, x.Receive(appended(0, 1, 5, true, 0)))
	sent(t, x.Receive(appended(2, 1, 5, false, 0)), snap(1, 2, 5, greatest, 4, "state"))
	sent(t, x.Receive(appended(2, 1, 5, true, greatest)))
	sent(t, x.Receive(appended(2, 1, 5, false, 0)), appendMsg(1, 2, 5, greatest, 4, greatest))
	right(t, x.Compact(greatest, "S"), api.OK)
}

// R6: one index below it there is room for one entry.
func TestWinsBelowGreatestIndex(t *testing.T) {
	x, err := Start(0, 1, behind(greatest-2, 4, 4).open(t, disk.New()))
	right(t, err, api.OK)
	for x.Role() != api.Leader {
		sent(t, x.Tick())
	}
	if x.Commit() != greatest-1 {
		t.Error(tellOf(x))
	}
	if index, term, l := x.Propose("c"); index != greatest || term != 5 || len(l) != 0 || x.Commit() != greatest {
		t.Errorf("%d, %d, %v", index, term, l)
	}
	if index, term, l := x.Propose("d"); index != 0 || term != 0 || len(l) != 0 || x.Commit() != greatest {
		t.Errorf("%d, %d, %v", index, term, l)
	}
}
