package raft

import (
	"slices"
	"testing"

	"vidimus/api"
	"vidimus/disk"
)

// holds: the entries behind the log's base have these terms.
func (p *pair) holds(terms ...uint64) {
	p.t.Helper()
	var got []uint64
	for _, e := range p.m.entries {
		got = append(got, e.Term)
	}
	if !slices.Equal(got, terms) {
		p.t.Errorf("terms %v; asked for %v", got, terms)
	}
}

// committed: a node 1 of 3 in term 5 that knows of an index up to which all agreed.
func committed(t *testing.T, k kept, commit uint64) *pair {
	t.Helper()
	p := start(t, 1, 3, k)
	last := p.x.Log().Last()
	term, _ := p.x.Log().TermAt(last)
	p.receive(appendMsg(0, 1, k.term, last, term, commit))
	if p.x.Commit() != max(commit, k.base) {
		t.Fatal(tellOf(p.x))
	}
	return p
}

// P9.1: Append behind an index that the log hasn't, or has with another term: where the leader may try next.
func TestAppendElsewhere(t *testing.T) {
	rows := []struct {
		k              kept
		index, logTerm uint64
		answer         uint64
	}{
		{of(5), 1, 0, 0}, {of(5), 1, 1, 0}, {of(5), 2, 1, 0}, {of(5), greatest, greatest, 0}, {of(5), 0, 1, 0}, {of(5), 0, greatest, 0},
		{of(5, 1, 2, 4), 4, 4, 3}, {of(5, 1, 2, 4), 5, 4, 3}, {of(5, 1, 2, 4), greatest, 4, 3}, {of(5, 1, 2, 4), 4, 0, 3},
		{of(5, 1, 2, 4), 3, 3, 2}, {of(5, 1, 2, 4), 3, 5, 2}, {of(5, 1, 2, 4), 3, 0, 2}, {of(5, 1, 2, 4), 2, 1, 1}, {of(5, 1, 2, 4), 1, 2, 0}, {of(5, 1, 2, 4), 0, 4, 0},
		{behind(6, 3, 5), 6, 2, 5}, {behind(6, 3, 5), 6, 4, 5}, {behind(6, 3, 5), 7, 3, 6}, {behind(6, 3, 5), 9, 3, 6},
		{behind(6, 3, 5, 4, 4), 6, 2, 5}, {behind(6, 3, 5, 4, 4), 7, 3, 6}, {behind(6, 3, 5, 4, 4), 8, 3, 7}, {behind(6, 3, 5, 4, 4), 9, 4, 8}, {behind(6, 3, 5, 4, 4), 10, 4, 8},
		{behind(greatest, 3, 5), greatest, 4, greatest - 1},
	}
	for _, row := range rows {
		p := start(t, 1, 3, row.k)
		was := p.m.kept()
		for _, entries := range [][]api.Entry{nil, run(row.index, 5), run(row.index, 5, 5, 5)} {
			sent(t, p.receive(appendMsg(2, 1, 5, row.index, row.logTerm, greatest, entries...)), appended(1, 2, 5, false, row.answer))
			if p.m.kept() != was || p.x.Commit() != row.k.base || p.x.Leader() != 2 || p.x.Role() != api.Follower {
				t.Error(tellOf(p.x))
			}
		}
	}
}

// P9.1: Append behind an index that both logs have: what the log hasn't, or has with another term, is given up for the leader's.
func TestAppendEntries(t *testing.T) {
	rows := []struct {
		name           string
		terms          []uint64 // of the log, that stands behind base 2 of term 1, and is agreed on up to 3
		index, logTerm uint64
		entries        []uint64
		want           []uint64
		answer         uint64
	}{
		{"none", []uint64{2, 2, 3}, 5, 3, nil, []uint64{2, 2, 3}, 5},
		{"none in the midst", []uint64{2, 2, 3}, 4, 2, nil, []uint64{2, 2, 3}, 4},
		{"none at the base", []uint64{2, 2, 3}, 2, 1, nil, []uint64{2, 2, 3}, 2},
		{"one at the end", []uint64{2, 2, 3}, 5, 3, []uint64{5}, []uint64{2, 2, 3, 5}, 6},
		{"many at the end", []uint64{2, 2, 3}, 5, 3, times(5, 20), append([]uint64{2, 2, 3}, times(5, 20)...), 25},
		{"some that it has", []uint64{2, 2, 3}, 3, 2, []uint64{2}, []uint64{2, 2, 3}, 4},
		{"all that it has", []uint64{2, 2, 3}, 2, 1, []uint64{2, 2, 3}, []uint64{2, 2, 3}, 5},
		{"some that it has, and more", []uint64{2, 2, 3}, 3, 2, []uint64{2, 3, 4, 5}, []uint64{2, 2, 3, 4, 5}, 7},
		{"another term at the end", []uint64{2, 2, 3}, 4, 2, []uint64{5}, []uint64{2, 2, 5}, 5},
		{"a lesser term", []uint64{2, 2, 3}, 4, 2, []uint64{2}, []uint64{2, 2, 2}, 5},
		{"another term in the midst, fewer", []uint64{2, 2, 3, 3, 3}, 3, 2, []uint64{3}, []uint64{2, 3}, 4},
		{"another term in the midst, more", []uint64{2, 2, 3, 3, 3}, 3, 2, []uint64{2, 4, 5}, []uint64{2, 2, 4, 5}, 6},
		{"first that isn't agreed on", []uint64{2, 2, 3}, 3, 2, []uint64{4, 4}, []uint64{2, 4, 4}, 5},
	}
	for _, row := range rows {
		t.Run(row.name, func(t *testing.T) {
			p := committed(t, behind(2, 1, 5, row.terms...), 3)
			g := appendMsg(0, 1, 5, row.index, row.logTerm, 0, run(row.index, row.entries...)...)
			sent(t, p.receive(g), appended(1, 0, 5, true, row.answer))
			p.holds(row.want...)
			// once more it changes nothing
			was := tellOf(p.x)
			sent(t, p.receive(g), appended(1, 0, 5, true, row.answer))
			if got := tellOf(p.x); got != was {
				t.Errorf("%s; it was %s", got, was)
			}
		})
	}
}

// P9.1: an entry that the log has, of that term, stays as it is, whatever its command is told to be.
func TestAppendSameTerm(t *testing.T) {
	p := start(t, 1, 3, of(5, 2, 3))
	sent(t, p.receive(appendMsg(0, 1, 5, 0, 0, 0, api.Entry{Term: 2, Cmd: "other"}, api.Entry{Term: 3, Cmd: "other"})), appended(1, 0, 5, true, 2))
	if e, _ := p.x.Log().At(1); e != run(0, 2)[0] {
		t.Error(e)
	}
}

// P9.1: what is agreed on isn't given up: nothing is done then, and nothing is answered; but the sender is the leader.
func TestAppendGivesUpAgreed(t *testing.T) {
	for commit := uint64(3); commit <= 6; commit++ {
		for at := uint64(3); at <= 6; at++ {
			p := committed(t, behind(2, 1, 5, 2, 2, 3, 3), commit)
			was := p.m.kept()
			index := at - 1
			term, _ := p.x.Log().TermAt(index)
			l := p.receive(appendMsg(2, 1, 5, index, term, 6, run(index, 4, 4)...))
			if p.x.Role() != api.Follower || p.x.Leader() != 2 {
				t.Error(tellOf(p.x))
			}
			if at > commit {
				sent(t, l, appended(1, 2, 5, true, at+1))
				if p.x.Commit() != max(commit, min(6, at+1)) {
					t.Error(tellOf(p.x))
				}
				continue
			}
			sent(t, l)
			if p.m.kept() != was || p.x.Commit() != commit {
				t.Error(tellOf(p.x))
			}
			// also where it comes behind entries that are the same, and where Index is below the base
			sent(t, p.receive(appendMsg(2, 1, 5, 2, 1, 9, append(run(2, []uint64{2, 2, 3, 3}[:at-3]...), api.Entry{Term: 9})...)))
			sent(t, p.receive(appendMsg(2, 1, 5, 0, 0, 9, append(run(0, append([]uint64{7, 7}, []uint64{2, 2, 3, 3}[:at-3]...)...), api.Entry{Term: 9})...)))
			if p.m.kept() != was || p.x.Commit() != commit {
				t.Error(tellOf(p.x))
			}
		}
	}
}

// P9.1: a candidate follows who leads its term; patience and role, also where nothing is done.
func TestAppendToCandidate(t *testing.T) {
	for _, g := range []api.Msg{
		appendMsg(0, 1, 5, 2, 4, 0), appendMsg(0, 1, 5, 9, 9, 9), appendMsg(0, 1, 5, 0, 0, 0, run(0, 1)...),
		snap(0, 1, 5, 0, 0, ""), snap(0, 1, 5, 9, 5, "S"), appendMsg(0, 1, 7, 2, 4, 0), snap(0, 1, 7, 9, 5, "S"),
	} {
		p := inRole(t, api.Candidate)
		p.receive(g)
		if p.x.Role() != api.Follower || p.x.Leader() != 0 || p.x.Log().Term() != g.Term {
			t.Errorf("%+v: %s", g, tellOf(p.x))
		}
		want := 1
		if g.Term > 5 {
			want = nobody
		}
		if p.x.Log().Vote() != want {
			t.Errorf("%+v: vote %d", g, p.x.Log().Vote())
		}
	}
}

// P9.1: of a lesser term Append and Snap are refused, by each role, with the own term; nothing changes.
func TestLedByLesserTerm(t *testing.T) {
	for _, role := range []int{api.Follower, api.Candidate, api.Leader} {
		p := inRole(t, role)
		was := tellOf(p.x)
		for _, term := range []uint64{0, 1, 4} {
			sent(t, p.receive(appendMsg(0, 1, term, 2, 4, 2, run(2, 4)...)), appended(1, 0, 5, false, 0))
			sent(t, p.receive(appendMsg(2, 1, term, 0, 0, 9)), appended(1, 2, 5, false, 0))
			sent(t, p.receive(snap(0, 1, term, 9, 4, "S")), appended(1, 0, 5, false, 0))
		}
		if got := tellOf(p.x); got != was {
			t.Errorf("%s; it was %s", got, was)
		}
	}
}

// P9.1: to a leader of that term Append and Snap are left; of a greater term it follows.
func TestLedAsLeader(t *testing.T) {
	p := inRole(t, api.Leader)
	was := tellOf(p.x)
	sent(t, p.receive(appendMsg(0, 1, 5, 2, 4, 3, run(2, 5, 5)...)))
	sent(t, p.receive(appendMsg(0, 1, 5, 0, 0, 0)))
	sent(t, p.receive(snap(0, 1, 5, 9, 5, "S")))
	if got := tellOf(p.x); got != was {
		t.Errorf("%s; it was %s", got, was)
	}
	sent(t, p.receive(appendMsg(0, 1, 6, 2, 4, 3, run(2, 6, 6)...)), appended(1, 0, 6, true, 4))
	if p.x.Role() != api.Follower || p.x.Leader() != 0 || p.x.Commit() != 3 {
		t.Error(tellOf(p.x))
	}
	p.holds(3, 4, 6, 6)
}

// P9.1: Append below the base: with too few entries it answers the base, without a look at terms; with as many and more those that the base stands for are left out.
func TestAppendBelowBase(t *testing.T) {
	for n := range 9 {
		for _, logTerm := range []uint64{0, 1, 9} {
			p := start(t, 1, 3, behind(5, 2, 5, 3, 3))
			g := appendMsg(0, 1, 5, 2, logTerm, 9, run(2, times(4, n)...)...)
			want := uint64(max(5, 2+n))
			sent(t, p.receive(g), appended(1, 0, 5, true, want))
			commit := uint64(5)
			if n > 3 {
				p.holds(times(4, n-3)...)
				commit = min(want, 9)
			} else {
				p.holds(3, 3)
			}
			if p.x.Commit() != commit {
				t.Errorf("%d entries: %s", n, tellOf(p.x))
			}
		}
	}
	// from 0 on, and entries that the log has behind the base
	p := start(t, 1, 3, behind(5, 2, 5, 3, 3))
	sent(t, p.receive(appendMsg(0, 1, 5, 0, 7, 6, run(0, 9, 9, 9, 9, 9, 3, 3, 5)...)), appended(1, 0, 5, true, 8))
	p.holds(3, 3, 5)
	if p.x.Commit() != 6 {
		t.Error(tellOf(p.x))
	}
	// the greatest base
	x, _ := Start(1, 3, behind(greatest, 2, 5).open(t, disk.New()))
	sent(t, x.Receive(appendMsg(0, 1, 5, 0, 0, 0, run(0, 1, 2)...)), appended(1, 0, 5, true, greatest))
	sent(t, x.Receive(appendMsg(0, 1, 5, greatest-1, 0, 0, run(0, 1)...)), appended(1, 0, 5, true, greatest))
	sent(t, x.Receive(appendMsg(0, 1, 5, greatest-2, 0, 0, run(0, 1)...)), appended(1, 0, 5, true, greatest))
}

// R6: entries for which there is no index any more: nothing is done; those for which there is one stand.
func TestAppendPastGreatestIndex(t *testing.T) {
	x, _ := Start(1, 3, behind(greatest-1, 2, 5).open(t, disk.New()))
	was := keptOf(x.Log())
	sent(t, x.Receive(appendMsg(0, 1, 5, greatest-1, 2, greatest, run(0, 3, 3)...)))
	sent(t, x.Receive(appendMsg(0, 1, 5, greatest-2, 2, greatest, run(0, 2, 3, 3)...)))
	if keptOf(x.Log()) != was || x.Commit() != greatest-1 || x.Down() {
		t.Error(tellOf(x))
	}
	sent(t, x.Receive(appendMsg(0, 1, 5, greatest-1, 2, greatest, run(0, 3)...)), appended(1, 0, 5, true, greatest))
	if x.Log().Last() != greatest || x.Commit() != greatest {
		t.Error(tellOf(x))
	}
	sent(t, x.Receive(appendMsg(0, 1, 5, greatest-1, 2, greatest, run(0, 3, 3)...)))
	sent(t, x.Receive(appendMsg(0, 1, 5, greatest, 3, greatest, run(0, 3)...)))
	sent(t, x.Receive(appendMsg(0, 1, 5, greatest, 3, greatest)), appended(1, 0, 5, true, greatest))
	if x.Log().Last() != greatest || x.Commit() != greatest || x.Down() {
		t.Error(tellOf(x))
	}
}

// P9.1: a Commit below, at and above the last of the entries, and below the commit index: it never goes back, and not past what was told.
func TestAppendCommit(t *testing.T) {
	for commit := uint64(0); commit <= 12; commit++ {
		// the log is longer than what is told
		p := committed(t, of(5, 2, 2, 3, 3, 3, 3, 3, 3), 3)
		sent(t, p.receive(appendMsg(0, 1, 5, 2, 2, commit, run(2, 3, 3, 3)...)), appended(1, 0, 5, true, 5))
		if p.x.Commit() != max(3, min(commit, 5)) {
			t.Errorf("Commit %d: %s", commit, tellOf(p.x))
		}
		// no entries: the last is Index itself
		p = committed(t, of(5, 2, 2, 3, 3, 3, 3, 3, 3), 3)
		sent(t, p.receive(appendMsg(0, 1, 5, 6, 3, commit)), appended(1, 0, 5, true, 6))
		if p.x.Commit() != max(3, min(commit, 6)) {
			t.Errorf("Commit %d: %s", commit, tellOf(p.x))
		}
		// those that make the log longer
		p = start(t, 1, 3, of(5, 2, 2))
		sent(t, p.receive(appendMsg(0, 1, 5, 2, 2, commit, run(2, 4, 5)...)), appended(1, 0, 5, true, 4))
		if p.x.Commit() != min(commit, 4) {
			t.Errorf("Commit %d: %s", commit, tellOf(p.x))
		}
	}
	p := start(t, 1, 3, of(5, 2, 2))
	sent(t, p.receive(appendMsg(0, 1, 5, 1, 2, greatest)), appended(1, 0, 5, true, 1))
	if p.x.Commit() != 1 {
		t.Error(tellOf(p.x))
	}
}

// P9.1: commands of no byte, of any bytes and long ones stand in the log as they were told.
func TestAppendCommands(t *testing.T) {
	every := make([]byte, 1<<16)
	for i := range every {
		every[i] = byte(i)
	}
	entries := []api.Entry{{Term: 5}, {Term: 5, Cmd: "\x00"}, {Term: 5, Cmd: string(every)}, {Term: 5, Cmd: "ä\n"}, {Term: 0, Cmd: "elder"}, {Term: greatest, Cmd: "newer than all"}}
	p := start(t, 1, 3, of(5))
	sent(t, p.receive(appendMsg(0, 1, 5, 0, 0, 3, entries...)), appended(1, 0, 5, true, 6))
	for i, want := range entries {
		if e, ok := p.x.Log().At(uint64(i) + 1); e != want || !ok {
			t.Errorf("%d: %.20q", i, e.Cmd)
		}
	}
}

// P9.1: Snap below, at and above the commit index: only above it it is installed.
func TestSnap(t *testing.T) {
	for index := range uint64(11) {
		for _, logTerm := range []uint64{0, 3, 7} {
			for _, state := range []string{"", "S", "\x00\xff"} {
				p := committed(t, behind(3, 1, 5, 2, 2, 3, 3), 5)
				was := p.m.kept()
				g := snap(0, 1, 5, index, logTerm, state)
				sent(t, p.receive(g), appended(1, 0, 5, true, max(index, 5)))
				if p.x.Commit() != max(index, 5) || p.x.Leader() != 0 {
					t.Error(tellOf(p.x))
				}
				if index <= 5 {
					if p.m.kept() != was {
						t.Error(tellOf(p.x))
					}
					continue
				}
				if base, term, s := p.x.Log().Base(); base != index || term != logTerm || s != state {
					t.Error(tellOf(p.x))
				}
				if index == 6 && logTerm == 3 {
					p.holds(3)
				} else {
					p.holds()
				}
				was = tellOf(p.x)
				sent(t, p.receive(g), appended(1, 0, 5, true, index))
				if got := tellOf(p.x); got != was {
					t.Errorf("%s; it was %s", got, was)
				}
			}
		}
	}
	p := start(t, 1, 3, of(5))
	sent(t, p.receive(snap(2, 1, 5, 0, 0, "S")), appended(1, 2, 5, true, 0))
	sent(t, p.receive(snap(2, 1, 6, 1, 0, "S")), appended(1, 2, 6, true, 1))
	sent(t, p.receive(snap(2, 1, greatest, greatest, greatest, "S")), appended(1, 2, greatest, true, greatest))
	if p.x.Commit() != greatest || p.x.Log().Last() != greatest {
		t.Error(tellOf(p.x))
	}
}
