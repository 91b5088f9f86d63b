package raft

import (
	"math"
	"math/big"
	"testing"

	"vidimus/api"
	"vidimus/disk"
	"vidimus/log"
)

// P9.1: n of 1 to 9, ids below it from 0 on; all others are refused, ahead of a log that is down, and are no node.
func TestStart(t *testing.T) {
	for n := -2; n <= 12; n++ {
		for id := -2; id <= 12; id++ {
			if 1 <= n && n <= 9 && 0 <= id && id < n {
				start(t, id, n, empty())
				continue
			}
			refused(t, id, n, opened(t), api.ErrArg)
			refused(t, id, n, nil, api.ErrArg)
			refused(t, id, n, downed(t), api.ErrArg)
		}
	}
	for _, c := range [][2]int{{0, math.MaxInt}, {0, math.MinInt}, {math.MaxInt, 3}, {math.MinInt, 3}, {math.MaxInt, math.MaxInt}, {math.MinInt, math.MinInt}, {1 << 32, 3}} {
		refused(t, c[0], c[1], opened(t), api.ErrArg)
	}
}

// P9.1, R2: no log, and logs that are down.
func TestStartDown(t *testing.T) {
	for n := 1; n <= 9; n++ {
		for id := range n {
			refused(t, id, n, nil, api.ErrDown)
			refused(t, id, n, new(log.Log), api.ErrDown)
			refused(t, id, n, downed(t), api.ErrDown)
		}
	}
}

func opened(t *testing.T) *log.Log {
	t.Helper()
	return empty().open(t, disk.New())
}

// downed: a log of which the disk went down.
func downed(t *testing.T) *log.Log {
	t.Helper()
	d := disk.New()
	l := of(3, 1, 2).open(t, d)
	d.Fuel(0)
	right(t, d.Sync(), api.ErrDown)
	return l
}

func refused(t *testing.T, id, n int, l *log.Log, want api.Errno) {
	t.Helper()
	if x, err := Start(id, n, l); x != nil || err != want {
		t.Errorf("node %d of %d: %v, error %d; asked for none, %d", id, n, x, err, want)
	}
}

// P9.1: it starts as a follower, without a leader, its commit index the log's base, and changes nothing of the log.
func TestStarts(t *testing.T) {
	for _, k := range []kept{empty(), of(7, 1, 2, 2), of(7, 1, 2).voted(1), of(7, 7).voted(0), behind(5, 2, 3), behind(5, 2, 3, 3, 3), behind(greatest, greatest, greatest)} {
		d := disk.New()
		l := k.open(t, d)
		was := keptOf(l)
		d.Fuel(0)
		x, err := Start(1, 3, l)
		right(t, err, api.OK)
		if x.Role() != api.Follower || x.Leader() != nobody || x.Commit() != k.base || x.Down() || x.Log() != l || keptOf(l) != was {
			t.Errorf("%s", tellOf(x))
		}
	}
}

// P9.1, R2: of a nil node nothing, zero values, ErrDown, Nobody, true.
func TestNil(t *testing.T) {
	var none *Node
	for range 40 {
		sent(t, none.Tick())
	}
	for kind := -1; kind < 7; kind++ {
		for _, n := range []uint64{0, 1, greatest} {
			sent(t, none.Receive(api.Msg{Kind: kind, From: 1, Term: n, Index: n, LogTerm: n, Commit: n, OK: true, Entries: run(0, 1, 2), State: "s"}))
			right(t, none.Compact(n, "s"), api.ErrDown)
		}
	}
	for _, cmd := range []string{"", "command"} {
		if index, term, l := none.Propose(cmd); index != 0 || term != 0 || len(l) != 0 {
			t.Errorf("%d, %d, %v", index, term, l)
		}
	}
	if none.Role() != 0 || none.Leader() != nobody || none.Commit() != 0 || none.Log() != nil || !none.Down() {
		t.Errorf("role %d, leader %d, commit %d, log %v, down %v", none.Role(), none.Leader(), none.Commit(), none.Log(), none.Down())
	}
}

// P0: a node that nobody started has no log, and is down.
func TestUnstarted(t *testing.T) {
	x := new(Node)
	for range 40 {
		sent(t, x.Tick())
	}
	sent(t, x.Receive(askVote(1, 0, 1, 1, 1)))
	sent(t, x.Receive(appendMsg(0, 0, 1, 0, 0, 0)))
	index, term, l := x.Propose("x")
	if index != 0 || term != 0 || len(l) != 0 || !x.Down() || x.Log() != nil || x.Role() != 0 || x.Commit() != 0 {
		t.Errorf("%d, %d, %v, %v", index, term, l, x)
	}
	right(t, x.Compact(0, ""), api.ErrDown)
	right(t, x.Compact(1, ""), api.ErrDown)
}

// P9.1: the limit of patience, in several terms: nothing one tick below it; at it the node stands.
func TestLimit(t *testing.T) {
	known := []struct {
		id    int
		term  uint64
		limit int
	}{
		{0, 0, 10}, {0, 1, 13}, {0, 2, 16}, {0, 3, 19}, {0, 4, 11}, {0, 7, 20}, {0, 11, 10}, {1, 0, 17}, {2, 0, 13}, {3, 0, 20}, {4, 0, 16}, {5, 0, 12}, {6, 0, 19}, {7, 0, 15}, {8, 0, 11}, {8, 5, 15}, {1, 5, 10},
	}
	for _, k := range known {
		limited(t, k.id, k.term, k.limit)
	}
	for id := range 9 {
		for _, term := range []uint64{0, 1, 2, 3, 4, 10, 11, 12, 100, 1<<62 + 1, greatest/3 - 1, greatest / 3, greatest/3 + 1, 1 << 63, greatest - 11, greatest - 2, greatest - 1} {
			n := new(big.Int).SetUint64(term)
			n.Add(n.Mul(n, big.NewInt(3)), big.NewInt(int64(7*id)))
			limited(t, id, term, 10+int(n.Mod(n, big.NewInt(11)).Int64()))
		}
	}
}

// limited: a node of that number, in that term, stands behind so many ticks.
func limited(t *testing.T, id int, term uint64, limit int) {
	t.Helper()
	p := start(t, id, 9, behind(3, 1, term, 2, 2))
	p.ticks(limit - 1)
	var want []api.Msg
	for to := range 9 {
		if to != id {
			want = append(want, askVote(id, to, term+1, 5, 2))
		}
	}
	sent(t, p.tick(), want...)
	if p.x.Role() != api.Candidate || p.x.Leader() != nobody || p.x.Log().Term() != term+1 || p.x.Log().Vote() != id || p.x.Commit() != 3 || p.x.Log().Last() != 5 {
		t.Errorf("%s", tellOf(p.x))
	}
}

// P9.1: a candidate that nobody votes for stands again and again, each time in the next term, by the limit of that before.
func TestStandsAgain(t *testing.T) {
	p := start(t, 1, 3, of(4, 1, 3))
	for term := uint64(4); term < 40; term++ {
		limit := 10 + int(7+3*term)%11
		l, ticks := p.stands()
		sent(t, l, askVote(1, 0, term+1, 2, 3), askVote(1, 2, term+1, 2, 3))
		if ticks != limit || p.x.Role() != api.Candidate || p.x.Log().Vote() != 1 {
			t.Errorf("in term %d behind %d ticks; asked for %d; %s", term, ticks, limit, tellOf(p.x))
		}
	}
}

// R6: above the greatest term there is none to stand in: nothing is sent, and nothing changes.
func TestGreatestTerm(t *testing.T) {
	for _, n := range []int{1, 2, 9} {
		d := disk.New()
		x, _ := Start(0, n, of(greatest, 1, 2).voted(0).open(t, d))
		was := tellOf(x)
		for range 100 {
			sent(t, x.Tick())
		}
		if got := tellOf(x); got != was || x.Down() {
			t.Errorf("%s; it was %s", got, was)
		}
	}
	p := start(t, 1, 3, of(greatest))
	sent(t, p.receive(askVote(0, 1, greatest, 0, 0)), vote(1, 0, greatest, true))
	sent(t, p.receive(appendMsg(0, 1, greatest, 0, 0, 1, api.Entry{Term: greatest, Cmd: "x"})), appended(1, 0, greatest, true, 1))
}

// P9.1, and the chapter's example: a node of one wins at once when it stands, sends nothing, and agrees with itself.
func TestAlone(t *testing.T) {
	p := start(t, 0, 1, empty())
	p.ticks(9)
	if p.x.Role() != api.Follower || p.x.Commit() != 0 {
		t.Error(tellOf(p.x))
	}
	p.ticks(1)
	first, _ := p.x.Log().At(1)
	if p.x.Role() != api.Leader || p.x.Leader() != 0 || p.x.Commit() != 1 || p.x.Log().Term() != 1 || p.x.Log().Vote() != 0 || p.x.Log().Last() != 1 || first != (api.Entry{Term: 1}) {
		t.Error(tellOf(p.x))
	}
	p.ticks(50)
	for i, cmd := range []string{"", "a", "\x00\xff"} {
		index, term, l := p.propose(cmd)
		sent(t, l)
		if index != uint64(i)+2 || term != 1 || p.x.Commit() != index {
			t.Errorf("%d, %d, %s", index, term, tellOf(p.x))
		}
	}
	right(t, p.compact(3, "S"), api.OK)
	p.ticks(20)
	// none of it is its own, and none is of the others: there are none
	for _, from := range []int{-1, 0, 1} {
		sent(t, p.receive(askVote(from, 0, 9, 9, 9)))
	}
}

// P9.1: a node of one on a log of elder entries, behind a base: they are agreed on by the entry of its own term.
func TestAloneBehindBase(t *testing.T) {
	p := start(t, 0, 1, behind(4, 2, 5, 3, 3, 5))
	_, ticks := p.stands()
	if ticks != 10+3*5%11 || p.x.Commit() != 8 || p.x.Log().Last() != 8 || p.x.Role() != api.Leader {
		t.Errorf("%d ticks, %s", ticks, tellOf(p.x))
	}
}

// P9.1: a leader feeds at its third tick from when it won, and from each such tick on; a command doesn't change that.
func TestThirdTick(t *testing.T) {
	p, _ := leader(t, 1, 3, of(0))
	beat := []api.Msg{appendMsg(1, 0, 1, 0, 0, 0, api.Entry{Term: 1}), appendMsg(1, 2, 1, 0, 0, 0, api.Entry{Term: 1})}
	for range 5 {
		p.ticks(2)
		sent(t, p.tick(), beat...)
	}
	p.ticks(2)
	_, _, l := p.propose("c")
	for i := range beat {
		beat[i].Entries = append(beat[i].Entries, api.Entry{Term: 1, Cmd: "c"})
	}
	sent(t, l, beat...)
	sent(t, p.tick(), beat...)
	// a candidate's ticks don't count for the leader
	p = candidate(t, 1, 3, of(0))
	p.ticks(9)
	p.receive(vote(0, 1, 1, true))
	p.ticks(2)
	if l := p.tick(); len(l) != 2 {
		t.Error(l)
	}
}

// P9.1: what renews the patience of a follower, and what doesn't.
func TestRenewed(t *testing.T) {
	rows := []struct {
		g       api.Msg
		renewed bool
	}{
		{askVote(0, 1, 5, 2, 4), true},
		{askVote(0, 1, 5, 1, 4), false},
		{askVote(0, 1, 4, 9, 9), false},
		{vote(0, 1, 5, true), false},
		{appendMsg(0, 1, 5, 2, 4, 0), true},
		{appendMsg(0, 1, 5, 9, 9, 0), true},
		{appendMsg(0, 1, 5, 0, 0, 0, run(0, 3, 3)...), true},
		{appendMsg(0, 1, 4, 2, 4, 0), false},
		{snap(0, 1, 5, 0, 0, ""), true},
		{snap(0, 1, 5, 7, 5, "S"), true},
		{snap(0, 1, 4, 7, 5, "S"), false},
		{appended(0, 1, 5, true, 2), false},
		{appended(0, 1, 5, false, 2), false},
		{appendMsg(0, 2, 5, 2, 4, 0), false},
		{appendMsg(1, 1, 5, 2, 4, 0), false},
		{appendMsg(3, 1, 5, 2, 4, 0), false},
		{api.Msg{Kind: 5, From: 0, To: 1, Term: 5}, false},
	}
	const limit = 10 + (7+3*5)%11
	for _, row := range rows {
		p := start(t, 1, 3, of(5, 4, 4))
		p.ticks(limit - 2)
		p.receive(row.g)
		p.ticks(1)
		if !row.renewed {
			if l := p.tick(); len(l) == 0 {
				t.Errorf("%+v renews", row.g)
			}
			continue
		}
		p.ticks(limit - 2)
		if l := p.tick(); len(l) == 0 {
			t.Errorf("%+v renews too long", row.g)
		}
	}
}

// P9.1: a greater term alone doesn't renew patience; the limit is that of the new term from then on.
func TestLimitOfNewTerm(t *testing.T) {
	// node 1's limits: in term 3 15, in term 4 18, in term 5 10
	p := start(t, 1, 3, of(3))
	p.ticks(14)
	sent(t, p.receive(appended(0, 1, 4, true, 0)))
	p.ticks(3)
	if l := p.tick(); len(l) != 2 {
		t.Error(l)
	}
	p = start(t, 1, 3, of(3))
	p.ticks(14)
	sent(t, p.receive(appended(0, 1, 5, true, 0)))
	sent(t, p.tick(), askVote(1, 0, 6, 0, 0), askVote(1, 2, 6, 0, 0))
}

// P9.1: of one that is no leader a command is nothing.
func TestProposeToOthers(t *testing.T) {
	for _, p := range []*pair{start(t, 0, 3, of(2, 1, 2)), candidate(t, 0, 3, of(2, 1, 2)), start(t, 0, 1, empty())} {
		was := tellOf(p.x)
		for _, cmd := range []string{"", "command"} {
			index, term, l := p.propose(cmd)
			sent(t, l)
			if index != 0 || term != 0 || tellOf(p.x) != was {
				t.Errorf("%d, %d, %s", index, term, tellOf(p.x))
			}
		}
	}
}

// P9.1: of a leader a command is an entry more of its term, and goes to all others; nothing is agreed on yet.
func TestPropose(t *testing.T) {
	p, _ := leader(t, 1, 3, of(4, 2, 4))
	var more []api.Entry
	more = append(more, api.Entry{Term: 5})
	for i, cmd := range []string{"a", "", "\x00\xff\n", "ä"} {
		more = append(more, api.Entry{Term: 5, Cmd: cmd})
		index, term, l := p.propose(cmd)
		sent(t, l, appendMsg(1, 0, 5, 2, 4, 0, more...), appendMsg(1, 2, 5, 2, 4, 0, more...))
		if index != uint64(i)+4 || term != 5 || p.x.Commit() != 0 || p.x.Log().Last() != index {
			t.Errorf("%d, %d, %s", index, term, tellOf(p.x))
		}
	}
}

// P9.1: Compact at, below and above the commit index, at the base and below it; states of no byte and of any bytes.
func TestCompact(t *testing.T) {
	for _, state := range []string{"", "S", "\x00\xff"} {
		for index := range uint64(9) {
			p := start(t, 1, 3, behind(2, 1, 4, 2, 2, 3, 4))
			p.receive(appendMsg(0, 1, 4, 6, 4, 4))
			want := api.ErrArg
			if 2 <= index && index <= 4 {
				want = api.OK
			}
			right(t, p.compact(index, state), want)
			if base, term, s := p.x.Log().Base(); want == api.OK && (base != index || term != []uint64{1, 2, 2}[index-2] || s != state || p.x.Log().Last() != 6) {
				t.Errorf("base %d of %d, %q", base, term, s)
			}
			if p.x.Commit() != 4 {
				t.Errorf("commit %d", p.x.Commit())
			}
		}
	}
	p := start(t, 1, 3, of(4, 2, 2))
	for _, index := range []uint64{1, 2, 3, 1 << 63, greatest} {
		right(t, p.compact(index, "S"), api.ErrArg)
	}
	right(t, p.compact(0, "S"), api.OK)
	for _, q := range []*pair{candidate(t, 0, 3, of(1, 1)), first(leader(t, 0, 3, of(1, 1)))} {
		right(t, q.compact(0, "S"), api.OK)
		right(t, q.compact(1, "S"), api.ErrArg)
	}
}

func first(p *pair, _ []api.Msg) *pair { return p }

// R1: of a node that is down ErrDown stands ahead of what is wrong with the index.
func TestCompactDown(t *testing.T) {
	for _, index := range []uint64{0, 1, 2, 5, greatest} {
		p := start(t, 1, 3, behind(1, 1, 4, 2))
		p.d.Fuel(0)
		right(t, p.d.Sync(), api.ErrDown)
		right(t, p.x.Compact(index, "S"), api.ErrDown)
		right(t, p.x.Compact(index, "S"), api.ErrDown)
	}
}

// P9.1: messages To another one, From itself, From none of the n: all of them are left, whatever else they say.
func TestLeft(t *testing.T) {
	for _, role := range []int{api.Follower, api.Candidate, api.Leader} {
		for _, way := range [][2]int{
			{0, 0}, {0, 2}, {0, 3}, {0, -1}, {0, math.MaxInt}, {0, math.MinInt}, {2, 0}, {2, 2},
			{1, 1}, {1, 0}, {1, 2}, {3, 1}, {-1, 1}, {9, 1}, {math.MaxInt, 1}, {math.MinInt, 1}, {-1, -1}, {3, 3},
		} {
			p := inRole(t, role)
			was := tellOf(p.x)
			for kind := -1; kind < 7; kind++ {
				for _, term := range []uint64{1, 5, 6, greatest} {
					sent(t, p.receive(api.Msg{Kind: kind, From: way[0], To: way[1], Term: term, Index: 9, LogTerm: 9, Commit: 9, OK: true, Entries: run(9, 9), State: "S"}))
				}
			}
			if got := tellOf(p.x); got != was {
				t.Errorf("from %d to %d: %s; it was %s", way[0], way[1], got, was)
			}
		}
	}
}

// inRole: node 1 of 3, in that role, in term 5.
func inRole(t *testing.T, role int) *pair {
	t.Helper()
	switch role {
	case api.Candidate:
		return candidate(t, 1, 3, of(4, 3, 4))
	case api.Leader:
		return first(leader(t, 1, 3, of(4, 3, 4)))
	}
	return start(t, 1, 3, of(5, 3, 4))
}

// P9.1: of a kind that there is none only the term counts: a greater one is taken on; nothing is sent.
func TestNoKind(t *testing.T) {
	for _, role := range []int{api.Follower, api.Candidate, api.Leader} {
		for _, kind := range []int{-1, 5, 6, 100, math.MaxInt, math.MinInt} {
			p := inRole(t, role)
			was := tellOf(p.x)
			g := api.Msg{Kind: kind, From: 0, To: 1, Index: 9, LogTerm: 9, Commit: 9, OK: true, Entries: run(9, 9), State: "S"}
			for _, term := range []uint64{0, 4, 5} {
				g.Term = term
				sent(t, p.receive(g))
			}
			if got := tellOf(p.x); got != was {
				t.Errorf("%s; it was %s", got, was)
			}
			g.Term = 6
			sent(t, p.receive(g))
			if p.x.Role() != api.Follower || p.x.Leader() != nobody || p.x.Log().Term() != 6 || p.x.Log().Vote() != nobody {
				t.Error(tellOf(p.x))
			}
		}
	}
}

// P9.1: a greater term, of any message to any role: it is the term, without a vote, and the node follows, without a leader.
func TestGreaterTerm(t *testing.T) {
	for _, role := range []int{api.Follower, api.Candidate, api.Leader} {
		for _, term := range []uint64{6, 100, 1 << 63, greatest} {
			for _, g := range []api.Msg{askVote(0, 1, term, 0, 0), vote(0, 1, term, true), vote(0, 1, term, false), appended(0, 1, term, true, 9), appended(0, 1, term, false, 0)} {
				p := inRole(t, role)
				p.receive(g)
				if p.x.Role() != api.Follower || p.x.Leader() != nobody || p.x.Log().Term() != term || p.x.Log().Vote() != nobody {
					t.Errorf("%+v: %s", g, tellOf(p.x))
				}
			}
		}
	}
	// a leader that it took for one is gone too
	p := start(t, 1, 3, of(5))
	p.receive(appendMsg(2, 1, 5, 0, 0, 0))
	if p.x.Leader() != 2 {
		t.Error(tellOf(p.x))
	}
	p.receive(vote(0, 1, 6, true))
	if p.x.Leader() != nobody {
		t.Error(tellOf(p.x))
	}
}

// R4: what is handed in isn't changed and isn't kept, and what is answered is the caller's own.
func TestOwnMemory(t *testing.T) {
	p := start(t, 1, 3, of(1))
	entries := run(0, 1, 1, 1)
	p.receive(appendMsg(0, 1, 1, 0, 0, 0, entries...))
	for i, e := range run(0, 1, 1, 1) {
		if entries[i] != e {
			t.Errorf("handed in entry %d became %v", i, entries[i])
		}
	}
	clear(entries)
	p.same("a change of what was handed in")
	_, _ = p.stands()
	l := p.receive(vote(0, 1, 2, true))
	if len(l) != 2 || len(l[0].Entries) != 1 || len(l[1].Entries) != 1 {
		t.Fatal(l)
	}
	l[0].Entries[0].Cmd = "other"
	if l[1].Entries[0].Cmd != "" {
		t.Error("two messages share their entries")
	}
	p.same("a change of what was answered")
	_ = append(l[0].Entries, api.Entry{Term: 9})
	p.ticks(2)
	sent(t, p.tick(), appendMsg(1, 0, 2, 3, 1, 0, api.Entry{Term: 2}), appendMsg(1, 2, 2, 3, 1, 0, api.Entry{Term: 2}))
}

// R7: two nodes don't know one another, and of the same calls answer the same.
func TestTwoNodes(t *testing.T) {
	a, b := start(t, 0, 3, of(1, 1)), start(t, 0, 3, of(1, 1))
	was := tellOf(b.x)
	sentA, _ := a.stands()
	if tellOf(b.x) != was {
		t.Error(tellOf(b.x))
	}
	sentB, _ := b.stands()
	sent(t, sentA, sentB...)
}
