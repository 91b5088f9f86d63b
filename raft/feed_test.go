package raft

import (
	"testing"

	"vidimus/api"
	"vidimus/disk"
)

// own: entries as run makes them, and behind them that of a leader of that term.
func own(term uint64, entries ...api.Entry) []api.Entry {
	return append(entries, api.Entry{Term: term})
}

// P9.1: a node is fed eight entries at most, those from next on; next moves when it says that it has them.
func TestFeedsEight(t *testing.T) {
	p, _ := leader(t, 0, 2, of(4, times(4, 20)...))
	all := own(5, run(0, times(4, 20)...)...)
	// it has none of them
	for index := uint64(20); index > 0; index-- {
		l := p.receive(appended(1, 0, 5, false, greatest))
		sent(t, l, appendMsg(0, 1, 5, index-1, min(index-1, 1)*4, 0, all[index-1:min(index+7, 21)]...))
	}
	for index := uint64(0); index < 21; index += 8 {
		l := p.receive(appended(1, 0, 5, true, index))
		sent(t, l, appendMsg(0, 1, 5, index, min(index, 1)*4, 0, all[index:min(index+8, 21)]...))
	}
	if p.x.Commit() != 0 {
		t.Error(tellOf(p.x))
	}
	sent(t, p.receive(appended(1, 0, 5, true, 21)))
	if p.x.Commit() != 21 {
		t.Error(tellOf(p.x))
	}
	// from then on only what is new is fed
	_, _, l := p.propose("c")
	sent(t, l, appendMsg(0, 1, 5, 21, 5, 21, api.Entry{Term: 5, Cmd: "c"}))
}

// P9.1: next at the base, below it and past it: up to the base the state is told, behind it entries.
func TestFeedsState(t *testing.T) {
	rows := []struct {
		index uint64 // that the node answers, not OK
		want  api.Msg
	}{
		{9, appendMsg(0, 1, 5, 8, 4, 4, own(5, run(8, 4)...)...)},
		{6, appendMsg(0, 1, 5, 6, 4, 4, own(5, run(6, 4, 4, 4)...)...)},
		{5, appendMsg(0, 1, 5, 5, 3, 4, own(5, run(5, 4, 4, 4, 4)...)...)},
		{4, appendMsg(0, 1, 5, 4, 2, 4, own(5, run(4, 3, 4, 4, 4, 4)...)...)},
		{3, snap(0, 1, 5, 4, 2, "state")},
		{2, snap(0, 1, 5, 4, 2, "state")},
		{0, snap(0, 1, 5, 4, 2, "state")},
	}
	for _, row := range rows {
		p, _ := leader(t, 0, 3, behind(4, 2, 4, 3, 4, 4, 4, 4))
		sent(t, p.receive(appended(1, 0, 5, false, row.index)), row.want)
		// the other one is fed from where it was
		p.ticks(2)
		sent(t, p.tick(), row.want, appendMsg(0, 2, 5, 9, 4, 4, api.Entry{Term: 5}))
	}
}

// P9.1: a state is told until the node says up to where it has it; then entries behind that.
func TestFeedsBehindState(t *testing.T) {
	p, _ := leader(t, 0, 3, behind(4, 2, 4, 3))
	sent(t, p.receive(appended(1, 0, 5, false, 0)), snap(0, 1, 5, 4, 2, "state"))
	sent(t, p.receive(appended(1, 0, 5, false, 3)), snap(0, 1, 5, 4, 2, "state"))
	sent(t, p.receive(appended(1, 0, 5, true, 4)), appendMsg(0, 1, 5, 4, 2, 4, own(5, run(4, 3)...)...))
	sent(t, p.receive(appended(1, 0, 5, true, 6)))
	if p.x.Commit() != 6 {
		t.Error(tellOf(p.x))
	}
	// a new base, past what the third one has
	right(t, p.compact(6, "newer"), api.OK)
	sent(t, p.receive(appended(2, 0, 5, false, 3)), snap(0, 2, 5, 6, 5, "newer"))
	sent(t, p.receive(appended(2, 0, 5, true, 5)), snap(0, 2, 5, 6, 5, "newer"))
	_, _, l := p.propose("c")
	sent(t, l, appendMsg(0, 1, 5, 6, 5, 6, api.Entry{Term: 5, Cmd: "c"}), snap(0, 2, 5, 6, 5, "newer"))
	sent(t, p.receive(appended(2, 0, 5, true, 6)), appendMsg(0, 2, 5, 6, 5, 6, api.Entry{Term: 5, Cmd: "c"}))
}

// P9.1: Appended, OK: match is the greatest that was told, and not past the last index.
func TestAppendedOK(t *testing.T) {
	p, _ := leader(t, 0, 3, of(4, 1, 2, 4))
	all := own(5, run(0, 1, 2, 4)...)
	sent(t, p.receive(appended(1, 0, 5, true, 0)), appendMsg(0, 1, 5, 0, 0, 0, all...))
	sent(t, p.receive(appended(1, 0, 5, true, 2)), appendMsg(0, 1, 5, 2, 2, 0, all[2:]...))
	// told late
	sent(t, p.receive(appended(1, 0, 5, true, 1)), appendMsg(0, 1, 5, 2, 2, 0, all[2:]...))
	sent(t, p.receive(appended(1, 0, 5, true, 3)), appendMsg(0, 1, 5, 3, 4, 0, all[3:]...))
	if p.x.Commit() != 0 {
		t.Error(tellOf(p.x))
	}
	// past the last index
	for _, index := range []uint64{5, 100, greatest} {
		q, _ := leader(t, 0, 3, of(4, 1, 2, 4))
		sent(t, q.receive(appended(1, 0, 5, true, index)))
		if q.x.Commit() != 4 {
			t.Error(tellOf(q.x))
		}
		_, _, l := q.propose("c")
		sent(t, l, appendMsg(0, 1, 5, 4, 5, 4, api.Entry{Term: 5, Cmd: "c"}), appendMsg(0, 2, 5, 3, 4, 4, api.Entry{Term: 5}, api.Entry{Term: 5, Cmd: "c"}))
		if q.x.Commit() != 4 {
			t.Error(tellOf(q.x))
		}
	}
}

// P9.1: Appended, not OK: next goes back by one at least, to what the node told, and not to what it is known to have, nor below 1.
func TestAppendedNotOK(t *testing.T) {
	all := own(5, run(0, 1, 2, 4, 4, 4)...)
	terms := []uint64{0, 1, 2, 4, 4, 4}
	for index := uint64(0); index < 9; index++ {
		for match := uint64(0); match <= 5; match++ {
			p, _ := leader(t, 0, 3, of(4, 1, 2, 4, 4, 4))
			want := max(min(4, index), match)
			if match > 0 {
				// next is behind match then: it can't go back at all
				p.receive(appended(1, 0, 5, true, match))
				want = match
			}
			sent(t, p.receive(appended(1, 0, 5, false, index)), appendMsg(0, 1, 5, want, terms[want], 0, all[want:]...))
			want = max(min(max(want, 1)-1, index), match)
			sent(t, p.receive(appended(1, 0, 5, false, index)), appendMsg(0, 1, 5, want, terms[want], 0, all[want:]...))
		}
	}
	p, _ := leader(t, 0, 3, of(4, 1, 2, 4, 4, 4))
	for range 3 {
		sent(t, p.receive(appended(1, 0, 5, false, 0)), appendMsg(0, 1, 5, 0, 0, 0, all...))
	}
	sent(t, p.receive(appended(2, 0, 5, false, greatest)), appendMsg(0, 2, 5, 4, 4, 0, all[4:]...))
	sent(t, p.receive(appended(2, 0, 5, false, greatest-1)), appendMsg(0, 2, 5, 3, 4, 0, all[3:]...))
}

// P9.1: Appended in another term, and to one that is no leader, is nothing but that a greater term counts.
func TestAppendedElsewhere(t *testing.T) {
	for _, ok := range []bool{true, false} {
		for _, role := range []int{api.Follower, api.Candidate, api.Leader} {
			p := inRole(t, role)
			was := tellOf(p.x)
			for _, term := range []uint64{0, 4, 5} {
				if role == api.Leader && term == 5 {
					continue
				}
				for _, index := range []uint64{0, 2, 3, greatest} {
					sent(t, p.receive(appended(0, 1, term, ok, index)))
				}
			}
			if got := tellOf(p.x); got != was {
				t.Errorf("%s; it was %s", got, was)
			}
			sent(t, p.receive(appended(0, 1, 6, ok, 3)))
			if p.x.Role() != api.Follower || p.x.Log().Term() != 6 || p.x.Commit() != 0 {
				t.Error(tellOf(p.x))
			}
		}
	}
}

// P9.1: what was known of the others in a term that ended is known no more: who wins anew begins anew.
func TestBeginsAnew(t *testing.T) {
	p, _ := leader(t, 0, 3, of(4, 1, 2))
	sent(t, p.receive(appended(1, 0, 5, true, 3)))
	p.receive(vote(2, 0, 6, false))
	p.stands()
	l := p.receive(vote(2, 0, 7, true))
	sent(t, l, appendMsg(0, 1, 7, 3, 5, 3, api.Entry{Term: 7}), appendMsg(0, 2, 7, 3, 5, 3, api.Entry{Term: 7}))
	sent(t, p.receive(appended(1, 0, 7, false, 0)), appendMsg(0, 1, 7, 0, 0, 3, append(run(0, 1, 2), api.Entry{Term: 5}, api.Entry{Term: 7})...))
}

// P9.1: an entry of an elder term that a majority has isn't agreed on till one of the leader's term is.
func TestElderEntries(t *testing.T) {
	p, _ := leader(t, 0, 3, of(4, 1, 2, 4))
	for index := uint64(0); index < 4; index++ {
		p.receive(appended(1, 0, 5, true, index))
		p.receive(appended(2, 0, 5, true, index))
		if p.x.Commit() != 0 {
			t.Error(tellOf(p.x))
		}
	}
	p.receive(appended(2, 0, 5, true, 4))
	if p.x.Commit() != 4 {
		t.Error(tellOf(p.x))
	}
}

// P9.1: up to where a majority reaches, the leader itself among them: of each n.
func TestCounts(t *testing.T) {
	for n := 2; n <= 9; n++ {
		p, _ := leader(t, 0, n, of(0))
		for range n {
			p.propose("c")
		}
		// node i has i entries, the leader itself all
		for i := 1; i < n; i++ {
			p.receive(appended(i, 0, 1, true, uint64(i)))
			want := uint64(0)
			if have := i + 1; 2*have > n {
				// the leader and all from the last so many on
				want = uint64(i + 1 - n/2)
			}
			if p.x.Commit() != want {
				t.Errorf("%d of %d: commit %d; asked for %d", i, n, p.x.Commit(), want)
			}
		}
	}
}

// R6: indexes up to the greatest one, fed and told.
func TestFeedsGreatestIndex(t *testing.T) {
	x, err := Start(0, 2, behind(greatest-3, 2, 4, 3, 4).open(t, disk.New()))
	right(t, err, api.OK)
	for x.Role() != api.Candidate {
		x.Tick()
	}
	none := api.Entry{Term: 5}
	entries := own(5, run(greatest-3, 3, 4)...)
	sent(t, x.Receive(vote(1, 0, 5, true)), appendMsg(0, 1, 5, greatest-1, 4, greatest-3, none))
	sent(t, x.Receive(appended(1, 0, 5, false, greatest)), appendMsg(0, 1, 5, greatest-2, 3, greatest-3, entries[1:]...))
	sent(t, x.Receive(appended(1, 0, 5, false, greatest)), appendMsg(0, 1, 5, greatest-3, 2, greatest-3, entries...))
	sent(t, x.Receive(appended(1, 0, 5, false, greatest)), snap(0, 1, 5, greatest-3, 2, "state"))
	sent(t, x.Receive(appended(1, 0, 5, false, 0)), snap(0, 1, 5, greatest-3, 2, "state"))
	sent(t, x.Receive(appended(1, 0, 5, true, greatest-2)), appendMsg(0, 1, 5, greatest-2, 3, greatest-3, entries[1:]...))
	sent(t, x.Receive(appended(1, 0, 5, true, greatest)))
	if x.Commit() != greatest {
		t.Error(tellOf(x))
	}
	sent(t, x.Receive(appended(1, 0, 5, false, greatest)), appendMsg(0, 1, 5, greatest, 5, greatest))
}

// P9.1: a term that nothing but its number tells, in the midst of a leader's feeding: it follows, and feeds no more.
func TestFeedsNoMore(t *testing.T) {
	p, _ := leader(t, 0, 3, of(4, 1, 2))
	sent(t, p.receive(appended(1, 0, 6, false, 0)))
	sent(t, p.receive(appended(1, 0, 5, true, 3)))
	p.ticks(5)
	index, term, l := p.propose("c")
	if index != 0 || term != 0 || len(l) != 0 || p.x.Commit() != 0 {
		t.Errorf("%d, %d, %v", index, term, l)
	}
}
