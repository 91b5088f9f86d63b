package group

import (
	"fmt"
	"math"
	"slices"
	"testing"

	"vidimus/api"
)

func askVote(from, to int, term, index, logTerm uint64) api.Msg {
	return api.Msg{Kind: api.AskVote, From: from, To: to, Term: term, Index: index, LogTerm: logTerm}
}

func vote(from, to int, term uint64) api.Msg {
	return api.Msg{Kind: api.Vote, From: from, To: to, Term: term, OK: true}
}

func appendMsg(from, to int, term, index, logTerm, commit uint64, entries ...api.Entry) api.Msg {
	return api.Msg{Kind: api.Append, From: from, To: to, Term: term, Index: index, LogTerm: logTerm, Commit: commit, Entries: entries}
}

func appended(from, to int, term, index uint64) api.Msg {
	return api.Msg{Kind: api.Appended, From: from, To: to, Term: term, OK: true, Index: index}
}

func snap(from, to int, term, index, logTerm uint64, state string) api.Msg {
	return api.Msg{Kind: api.Snap, From: from, To: to, Term: term, Index: index, LogTerm: logTerm, State: state}
}

// P11.1: how many nodes a group has.
func TestNew(t *testing.T) {
	for n := 1; n <= 9; n++ {
		g, s := made(t, n)
		if len(s.all) != n || g.Net() == nil || g.Net().Len() != 0 {
			t.Errorf("%d nodes: %d machines", n, len(s.all))
		}
		for i := range n {
			x := g.Node(i)
			if got := nodeOf(x); got != `role 0, leader -1, commit 0, down false, term 0, vote -1, base 0 of 0 "", entries []` {
				t.Errorf("node %d: %s", i, got)
			}
			if g.Machine(i) != Machine(s.all[i]) || len(s.all[i].told) > 0 || g.Node(i) != x {
				t.Errorf("node %d has the machine %v", i, g.Machine(i))
			}
			did(t, g, i, 0)
		}
		outcomes(t, g)
	}
}

// P11.1: numbers of which there is no group: no machine is made for it.
func TestNewRefuses(t *testing.T) {
	for _, n := range []int{0, 10, -1, -9, 11, 1000, math.MinInt, math.MaxInt, 1<<32 + 3} {
		s := &shelf{}
		g, err := New(n, s.machine)
		right(t, err, api.ErrArg)
		if g != nil || len(s.all) > 0 {
			t.Errorf("New(%d): %v, %d machines", n, g, len(s.all))
		}
		g, err = New(n, nil)
		right(t, err, api.ErrArg)
		if g != nil {
			t.Errorf("New(%d): %v", n, g)
		}
	}
	g, err := New(3, nil)
	right(t, err, api.ErrArg)
	if g != nil {
		t.Error("a group without machines")
	}
}

// P11.1: what nodes send is on its way, in order, behind all else, and is told to whom it is for.
func TestByHand(t *testing.T) {
	g, _ := made(t, 3)
	ticks(g, 0, 9)
	way(t, g)
	g.Tick(0)
	way(t, g, askVote(0, 1, 1, 0, 0), askVote(0, 2, 1, 0, 0))
	if !g.Deliver(1) {
		t.Error("no message")
	}
	way(t, g, askVote(0, 1, 1, 0, 0), vote(2, 0, 1))
	g.Net().Twice(1)
	if !g.Deliver(1) {
		t.Error("no message")
	}
	first := api.Entry{Term: 1}
	way(t, g, askVote(0, 1, 1, 0, 0), vote(2, 0, 1), appendMsg(0, 1, 1, 0, 0, 0, first), appendMsg(0, 2, 1, 0, 0, 0, first))
	g.Deliver(3)
	g.Deliver(1)
	did(t, g, 0, 0)
	g.Deliver(2)
	way(t, g, askVote(0, 1, 1, 0, 0), appendMsg(0, 1, 1, 0, 0, 0, first))
	// the entry by which it began to lead is agreed on; nothing is done for it
	did(t, g, 0, 1)
	did(t, g, 2, 0)
	outcomes(t, g)
	if index, term := g.Propose(0, "a"); index != 2 || term != 1 {
		t.Errorf("Propose: %d, %d", index, term)
	}
	a := api.Entry{Term: 1, Cmd: "a"}
	way(t, g, askVote(0, 1, 1, 0, 0), appendMsg(0, 1, 1, 0, 0, 0, first), appendMsg(0, 1, 1, 0, 0, 1, first, a), appendMsg(0, 2, 1, 1, 1, 1, a))
	did(t, g, 0, 1)
	g.Deliver(3)
	did(t, g, 2, 1)
	g.Deliver(3)
	did(t, g, 0, 2, "a")
	outcomes(t, g, api.Outcome{Node: 0, Index: 2, Term: 1, Out: "1: a"})
	g.Deliver(2)
	did(t, g, 1, 1)
	way(t, g, askVote(0, 1, 1, 0, 0), appendMsg(0, 1, 1, 0, 0, 0, first), appended(1, 0, 1, 2))
	g.Propose(0, "b")
	g.Deliver(3)
	g.Deliver(3)
	did(t, g, 1, 2, "a")
	did(t, g, 2, 2, "a")
	outcomes(t, g, api.Outcome{Node: 1, Index: 2, Term: 1, Out: "1: a"}, api.Outcome{Node: 2, Index: 2, Term: 1, Out: "1: a"})
}

// P11.1: a tick is the node's of that number alone: each has its own patience.
func TestTick(t *testing.T) {
	// in term 0 by rising numbers; in each more by 3 more, modulo 11
	for i, limit := range []int{10, 17, 13, 20, 16, 12, 19, 15, 11} {
		g, _ := made(t, 9)
		ticks(g, i, limit-1)
		way(t, g)
		g.Tick(i)
		if g.Net().Len() != 8 || g.Node(i).Role() != api.Candidate {
			t.Errorf("node %d: %s", i, nodeOf(g.Node(i)))
		}
		for j := range 9 {
			if term := g.Node(j).Log().Term(); j != i && term != 0 {
				t.Errorf("node %d: term %d", j, term)
			}
		}
	}
}

// P11.1: the example: three nodes, one leader: three outcomes of an entry.
func TestExample(t *testing.T) {
	g, _ := made(t, 3)
	who := led(t, g)
	outcomes(t, g)
	term := g.Node(who).Log().Term()
	index := proposed(t, g, who, "a")
	rounds(t, g, 4)
	l := g.Outcomes()
	slices.SortFunc(l, func(a, b api.Outcome) int { return a.Node - b.Node })
	var want []api.Outcome
	for i := range 3 {
		want = append(want, api.Outcome{Node: i, Index: index, Term: term, Out: "1: a"})
		did(t, g, i, index, "a")
	}
	if !slices.Equal(l, want) {
		t.Errorf("outcomes %+v; asked for %+v", l, want)
	}
}

// P11.1: one node alone: nothing is on its way, and what it takes it applies at once.
func TestAlone(t *testing.T) {
	g, s := made(t, 1)
	ticks(g, 0, 9)
	if index, term := g.Propose(0, "in vain"); index != 0 || term != 0 {
		t.Errorf("Propose: %d, %d", index, term)
	}
	did(t, g, 0, 0)
	g.Tick(0)
	did(t, g, 0, 1)
	outcomes(t, g)
	for k, cmd := range []string{"a", "", "b"} {
		if index, term := g.Propose(0, cmd); index != uint64(k)+2 || term != 1 {
			t.Errorf("Propose: %d, %d", index, term)
		}
	}
	did(t, g, 0, 4, "a", "b")
	outcomes(t, g, api.Outcome{Index: 2, Term: 1, Out: "1: a"}, api.Outcome{Index: 4, Term: 1, Out: "2: b"})
	way(t, g)
	// behind a crash it leads anew, and applies all of it anew
	g.Crash(0, 0)
	did(t, g, 0, 0)
	if g.Machine(0) == Machine(s.all[0]) || len(s.all) != 2 {
		t.Error("the machine isn't a new one")
	}
	ticks(g, 0, 13)
	did(t, g, 0, 5, "a", "b")
	outcomes(t, g, api.Outcome{Index: 2, Term: 1, Out: "1: a"}, api.Outcome{Index: 4, Term: 1, Out: "2: b"})
}

// P11.1: a follower takes no command.
func TestProposeToOthers(t *testing.T) {
	g, _ := made(t, 3)
	if index, term := g.Propose(0, "a"); index != 0 || term != 0 {
		t.Errorf("Propose: %d, %d", index, term)
	}
	ticks(g, 0, 10)
	was := tell(g)
	if index, term := g.Propose(0, "a"); index != 0 || term != 0 || tell(g) != was {
		t.Errorf("Propose to a candidate: %d, %d", index, term)
	}
	who := led(t, g)
	was = tell(g)
	for i := range 3 {
		if index, term := g.Propose(i, "a"); i != who && (index != 0 || term != 0 || tell(g) != was) {
			t.Errorf("Propose to %d: %d, %d", i, index, term)
		} else if i == who {
			was = tell(g)
		}
	}
}

// P11.1: for commands that are "" nothing is done, and nothing is told; they have their index.
func TestNoCommand(t *testing.T) {
	g, _ := made(t, 3)
	who := led(t, g)
	for k, cmd := range []string{"", "", "a", "", "\x00", " ", ""} {
		if index := proposed(t, g, who, cmd); index != uint64(k)+2 {
			t.Errorf("index %d", index)
		}
	}
	rounds(t, g, 4)
	l := g.Outcomes()
	for i := range 3 {
		did(t, g, i, 8, "a", "\x00", " ")
		var got []string
		for _, o := range l {
			if o.Node == i {
				got = append(got, fmt.Sprintf("%d: %q", o.Index, o.Out))
			}
		}
		if want := []string{`4: "1: a"`, `6: "2: \x00"`, `7: "3:  "`}; !slices.Equal(got, want) {
			t.Errorf("node %d: %q; asked for %q", i, got, want)
		}
	}
}

// P11.1: outcomes are told once, in order, and what was told is the caller's own.
func TestOutcomes(t *testing.T) {
	g, _ := made(t, 1)
	ticks(g, 0, 10)
	outcomes(t, g)
	g.Propose(0, "a")
	g.Propose(0, "b")
	l := g.Outcomes()
	want := []api.Outcome{{Index: 2, Term: 1, Out: "1: a"}, {Index: 3, Term: 1, Out: "2: b"}}
	if !slices.Equal(l, want) {
		t.Errorf("outcomes %+v; asked for %+v", l, want)
	}
	outcomes(t, g)
	outcomes(t, g)
	g.Propose(0, "c")
	if !slices.Equal(l, want) {
		t.Errorf("outcomes %+v, and later on %+v", want, l)
	}
	l = append(l[:0], api.Outcome{Out: "strange"}, api.Outcome{Out: "strange"}, api.Outcome{Out: "strange"})
	outcomes(t, g, api.Outcome{Index: 4, Term: 1, Out: "3: c"})
	if len(l) != 3 || l[2].Out != "strange" {
		t.Errorf("outcomes %+v", l)
	}
	outcomes(t, g)
}

// P11.1: places at which nothing is on its way; and messages to nobody.
func TestDeliverNothing(t *testing.T) {
	g, _ := made(t, 3)
	for range 2 {
		was, n := tell(g), g.Net().Len()
		for _, k := range []int{-1, n, n + 1, 999, math.MinInt, math.MaxInt} {
			if g.Deliver(k) || tell(g) != was {
				t.Errorf("Deliver(%d) of %d: true", k, n)
			}
		}
		ticks(g, 0, 10)
	}
	was := tell(g)
	n := g.Net().Len()
	for _, to := range off(3) {
		g.Net().Put(askVote(0, to, 9, 9, 9))
		if !g.Deliver(n) || tell(g) != was {
			t.Errorf("to %d: %s; it was %s", to, tell(g), was)
		}
	}
	// what is from nobody is taken, and left
	for _, from := range append(off(3), 1) {
		g.Net().Put(askVote(from, 1, 9, 9, 9))
		if !g.Deliver(n) || tell(g) != was {
			t.Errorf("from %d: %s; it was %s", from, tell(g), was)
		}
	}
}

// P11.1: a node that is down does nothing, and what is told to it is lost.
func TestDown(t *testing.T) {
	g, _ := made(t, 3)
	who := led(t, g)
	index := proposed(t, g, who, "a")
	rounds(t, g, 4)
	g.Outcomes()
	g.Fuel(who, 0)
	if g.Node(who).Down() {
		t.Error("down ahead of a step")
	}
	if index, term := g.Propose(who, "half"); index != 0 || term != 0 || !g.Node(who).Down() {
		t.Errorf("Propose: %d, %d", index, term)
	}
	way(t, g)
	was := tell(g)
	ticks(g, who, 30)
	right(t, g.Compact(who), api.ErrDown)
	other := (who + 1) % 3
	g.Net().Put(appendMsg(other, who, 9, index, 1, index), snap(other, who, 9, 100, 9, "strange"), askVote(other, who, 9, 100, 9))
	for range 3 {
		if !g.Deliver(0) {
			t.Error("no message")
		}
	}
	if tell(g) != was {
		t.Errorf("%s; it was %s", tell(g), was)
	}
	did(t, g, who, index, "a")
	outcomes(t, g)
	// the others go on, and it comes back
	other = led(t, g, who)
	index = proposed(t, g, other, "b")
	rounds(t, g, 4, who)
	g.Crash(who, 0)
	did(t, g, who, 0)
	rounds(t, g, 20)
	for i := range 3 {
		if got := bookOf(g, i).did; !slices.Equal(got, []string{"a", "b"}) || g.Applied(i) < index {
			t.Errorf("node %d did %q, up to %d", i, got, g.Applied(i))
		}
	}
}

// P11.1: so many steps of a disk are the node's of that number alone; a number below 0 is any.
func TestFuel(t *testing.T) {
	for _, n := range []int{0, 1, 2, 3, 10, -1, math.MinInt, math.MaxInt} {
		g, _ := made(t, 1)
		ticks(g, 0, 10)
		g.Propose(0, "a")
		g.Fuel(0, n)
		steps := 0
		for ; steps < 20; steps++ {
			// each compaction is a step
			if g.Compact(0) != api.OK {
				break
			}
		}
		want := 20
		if n >= 0 && n < 20 {
			want = n
		}
		if steps != want || g.Node(0).Down() != (want < 20) {
			t.Errorf("Fuel(%d): %d steps; asked for %d", n, steps, want)
		}
	}
	g, _ := made(t, 3)
	who := led(t, g)
	g.Fuel((who+1)%3, 0)
	proposed(t, g, who, "a")
	rounds(t, g, 4)
	for i := range 3 {
		if down := g.Node(i).Down(); down != (i == (who+1)%3) {
			t.Errorf("node %d is down: %t", i, down)
		}
	}
	// of one that goes on again before it noticed
	g, _ = made(t, 1)
	ticks(g, 0, 10)
	g.Fuel(0, 0)
	g.Fuel(0, -1)
	proposed(t, g, 0, "a")
	did(t, g, 0, 2, "a")
}

// P11.1: a log is compacted up to where the node applied, with its machine's state.
func TestCompact(t *testing.T) {
	g, _ := made(t, 3)
	// where nothing was applied
	for i := range 3 {
		was := tell(g)
		right(t, g.Compact(i), api.OK)
		if tell(g) != was {
			t.Errorf("node %d: %s; it was %s", i, tell(g), was)
		}
	}
	who := led(t, g)
	proposed(t, g, who, "a")
	proposed(t, g, who, "b")
	rounds(t, g, 4)
	// an entry more, that isn't agreed on
	proposed(t, g, who, "c")
	for range 2 {
		right(t, g.Compact(who), api.OK)
		if base, term, state := g.Node(who).Log().Base(); base != 3 || term != 1 || state != `"a" "b"` || g.Node(who).Log().Last() != 4 {
			t.Errorf("%s", nodeOf(g.Node(who)))
		}
		did(t, g, who, 3, "a", "b")
	}
	other := (who + 1) % 3
	if base, _, _ := g.Node(other).Log().Base(); base != 0 {
		t.Errorf("node %d has base %d", other, base)
	}
	rounds(t, g, 4)
	for i := range 3 {
		did(t, g, i, 4, "a", "b", "c")
		if len(bookOf(g, i).told) > 0 {
			t.Errorf("node %d is restored", i)
		}
	}
	right(t, g.Compact(who), api.OK)
	if base, _, state := g.Node(who).Log().Base(); base != 4 || state != `"a" "b" "c"` || g.Node(who).Log().Last() != 4 {
		t.Errorf("%s", nodeOf(g.Node(who)))
	}
	// the disk goes down in the midst
	g.Fuel(other, 0)
	was := logOf(g.Node(other).Log())
	for range 2 {
		right(t, g.Compact(other), api.ErrDown)
		if got := logOf(g.Node(other).Log()); got != was || !g.Node(other).Down() {
			t.Errorf("%s; it was %s", got, was)
		}
	}
}

// P11.1: the state of a machine that did nothing yet stands at base 0; by that none is restored.
func TestCompactAtNothing(t *testing.T) {
	g, err := New(1, func() Machine { return &book{did: []string{"from the beginning"}} })
	right(t, err, api.OK)
	right(t, g.Compact(0), api.OK)
	right(t, g.Compact(0), api.OK)
	if base, term, state := g.Node(0).Log().Base(); base != 0 || term != 0 || state != `"from the beginning"` {
		t.Error(nodeOf(g.Node(0)))
	}
	g.Crash(0, 0)
	did(t, g, 0, 0, "from the beginning")
	if len(bookOf(g, 0).told) > 0 {
		t.Error("restored from nothing")
	}
	ticks(g, 0, 10)
	did(t, g, 0, 1, "from the beginning")
	if len(bookOf(g, 0).told) > 0 {
		t.Error("restored from nothing")
	}
}

// P11.1: a node whose log's base comes to be above what it applied is restored from that, and does what stands behind it; the same machine it stays.
func TestRestored(t *testing.T) {
	g, s := made(t, 3)
	who := led(t, g)
	late := (who + 1) % 3
	proposed(t, g, who, "a")
	rounds(t, g, 4)
	for _, cmd := range []string{"b", "", "c"} {
		proposed(t, g, who, cmd)
	}
	rounds(t, g, 4, late)
	right(t, g.Compact(who), api.OK)
	proposed(t, g, who, "d")
	rounds(t, g, 4, late)
	did(t, g, late, 2, "a")
	g.Outcomes()
	elder := g.Machine(late)
	g.Net().Put(snap(who, late, 1, 5, 1, `"a" "b" "c"`))
	g.Deliver(0)
	did(t, g, late, 5, "a", "b", "c")
	outcomes(t, g)
	deliver(t, g)
	rounds(t, g, 6)
	did(t, g, late, 6, "a", "b", "c", "d")
	outcomes(t, g, api.Outcome{Node: late, Index: 6, Term: 1, Out: "4: d"})
	if got := bookOf(g, late).told; !slices.Equal(got, []string{`"a" "b" "c"`}) || g.Machine(late) != elder || len(s.all) != 3 {
		t.Errorf("restored from %q; %d machines", got, len(s.all))
	}
	// by an elder state none is
	g.Net().Put(snap(who, late, 1, 5, 1, `"strange"`))
	g.Deliver(0)
	did(t, g, late, 6, "a", "b", "c", "d")
	if len(bookOf(g, late).told) != 1 {
		t.Error("restored once more")
	}
}

// P11.1: behind a crash a new machine is as the log's base says, and nothing else is applied yet; then all behind it is applied anew, and told anew.
func TestCrash(t *testing.T) {
	g, s := made(t, 3)
	who := led(t, g)
	late := (who + 1) % 3
	proposed(t, g, who, "a")
	proposed(t, g, who, "b")
	rounds(t, g, 4)
	g.Outcomes()
	for range 2 {
		g.Crash(late, 0)
		did(t, g, late, 0)
		if got := nodeOf(g.Node(late)); got != fmt.Sprintf(`role 0, leader -1, commit 0, down false, term 1, vote %d, base 0 of 0 "", entries [{Term:1 Cmd:} {Term:1 Cmd:a} {Term:1 Cmd:b}]`, who) {
			t.Error(got)
		}
		outcomes(t, g)
	}
	if g.Machine(late) != Machine(s.all[4]) || len(s.all) != 5 || len(s.all[4].told) > 0 {
		t.Error("the machine isn't a new one")
	}
	rounds(t, g, 4)
	did(t, g, late, 3, "a", "b")
	outcomes(t, g, api.Outcome{Node: late, Index: 2, Term: 1, Out: "1: a"}, api.Outcome{Node: late, Index: 3, Term: 1, Out: "2: b"})
	right(t, g.Compact(late), api.OK)
	proposed(t, g, who, "c")
	rounds(t, g, 4)
	g.Outcomes()
	elder := g.Machine(late)
	g.Crash(late, 0)
	did(t, g, late, 3, "a", "b")
	if got := bookOf(g, late).told; g.Machine(late) == elder || !slices.Equal(got, []string{`"a" "b"`}) || len(s.all) != 6 {
		t.Errorf("restored from %q; %d machines", got, len(s.all))
	}
	if x := g.Node(late); x.Commit() != 3 || x.Log().Last() != 4 || x.Leader() != nobody {
		t.Error(nodeOf(x))
	}
	outcomes(t, g)
	rounds(t, g, 4)
	did(t, g, late, 4, "a", "b", "c")
	outcomes(t, g, api.Outcome{Node: late, Index: 4, Term: 1, Out: "3: c"})
	if len(bookOf(g, late).told) != 1 {
		t.Error("restored once more")
	}
	// what is on its way stays, and what wasn't asked for yet
	proposed(t, g, who, "d")
	n := g.Net().Len()
	g.Deliver(0)
	g.Deliver(0)
	g.Deliver(0)
	g.Deliver(0)
	l := len(g.outcomes)
	g.Crash(who, 0)
	g.Crash(late, 0)
	if len(g.Outcomes()) != l || l != 1 || n != 2 {
		t.Errorf("%d outcomes, %d messages", l, n)
	}
}

// P11.1: numbers that name no node: nothing, zero values, and nothing is changed.
func TestNoNode(t *testing.T) {
	for _, n := range []int{1, 3, 9} {
		g, s := made(t, n)
		who := led(t, g)
		proposed(t, g, who, "a")
		rounds(t, g, 4)
		proposed(t, g, who, "b")
		g.Outcomes()
		was := tell(g)
		for _, i := range off(n) {
			g.Tick(i)
			g.Crash(i, 0)
			g.Fuel(i, 0)
			if index, term := g.Propose(i, "c"); index != 0 || term != 0 {
				t.Errorf("Propose(%d): %d, %d", i, index, term)
			}
			right(t, g.Compact(i), api.ErrArg)
			if g.Node(i) != nil || g.Machine(i) != nil || g.Applied(i) != 0 {
				t.Errorf("node %d is there", i)
			}
		}
		outcomes(t, g)
		if got := tell(g); got != was || len(s.all) != n {
			t.Errorf("%s; it was %s", got, was)
		}
		proposed(t, g, who, "d")
	}
}

// P11.1: a nil group, and one that nobody made: nothing, zero values.
func TestNoGroup(t *testing.T) {
	for _, g := range []*Group{nil, {}} {
		for _, i := range append(off(3), 0, 1, 8) {
			g.Tick(i)
			g.Crash(i, 3)
			g.Fuel(i, 3)
			if index, term := g.Propose(i, "a"); index != 0 || term != 0 {
				t.Errorf("Propose(%d): %d, %d", i, index, term)
			}
			right(t, g.Compact(i), api.ErrArg)
			if g.Deliver(i) || g.Node(i) != nil || g.Machine(i) != nil || g.Applied(i) != 0 || g.Net() != nil || len(g.Outcomes()) > 0 {
				t.Errorf("node %d is there", i)
			}
		}
	}
}

// P11.1, P0: a machine that doesn't take a state: the node goes on behind the base, as the others do.
func TestDeafMachine(t *testing.T) {
	g, err := New(3, func() Machine { return &book{deaf: true} })
	right(t, err, api.OK)
	who := led(t, g)
	late := (who + 1) % 3
	proposed(t, g, who, "a")
	rounds(t, g, 4)
	proposed(t, g, who, "b")
	rounds(t, g, 4, late)
	right(t, g.Compact(who), api.OK)
	g.Outcomes()
	rounds(t, g, 8)
	did(t, g, late, 3, "a")
	proposed(t, g, who, "c")
	rounds(t, g, 4)
	did(t, g, who, 4, "a", "b", "c")
	did(t, g, late, 4, "a", "c")
	right(t, g.Compact(late), api.OK)
	g.Crash(late, 0)
	did(t, g, late, 4)
	for _, i := range []int{who, late} {
		if got := len(bookOf(g, i).told); got != 0 && i == who || got != 1 && i == late {
			t.Errorf("node %d is asked %d times", i, got)
		}
	}
	proposed(t, g, who, "d")
	rounds(t, g, 4)
	did(t, g, late, 5, "d")
}

// P11.1: a node that was led on by others applies behind the next thing that it does; one that is down does nothing any more.
func TestLedOnByOthers(t *testing.T) {
	g, _ := made(t, 1)
	ticks(g, 0, 10)
	if index, term, _ := g.Node(0).Propose("a"); index != 2 || term != 1 {
		t.Errorf("Propose: %d, %d", index, term)
	}
	did(t, g, 0, 1)
	outcomes(t, g)
	g.Tick(0)
	did(t, g, 0, 2, "a")
	outcomes(t, g, api.Outcome{Index: 2, Term: 1, Out: "1: a"})
	g.Node(0).Propose("b")
	right(t, g.Compact(0), api.OK)
	did(t, g, 0, 3, "a", "b")
	if base, _, state := g.Node(0).Log().Base(); base != 2 || state != `"a"` {
		t.Error(nodeOf(g.Node(0)))
	}
	outcomes(t, g, api.Outcome{Index: 3, Term: 1, Out: "2: b"})
	g.Node(0).Propose("c")
	g.Fuel(0, 0)
	right(t, g.Compact(0), api.ErrDown)
	g.Tick(0)
	did(t, g, 0, 3, "a", "b")
	outcomes(t, g)
	g.Crash(0, 0)
	did(t, g, 0, 2, "a")
}

// P0: a disk on which something stands that no log left: its node is down, and stays so; the others go on.
func TestStrangeDisk(t *testing.T) {
	g, _ := made(t, 3)
	who := led(t, g)
	late := (who + 1) % 3
	proposed(t, g, who, "a")
	rounds(t, g, 4)
	g.members[late].disk.Swap("strange")
	for range 2 {
		g.Crash(late, 0)
		did(t, g, late, 0)
		ticks(g, late, 30)
		if index, term := g.Propose(late, "b"); index != 0 || term != 0 || !g.Node(late).Down() {
			t.Errorf("Propose: %d, %d", index, term)
		}
		right(t, g.Compact(late), api.ErrDown)
		rounds(t, g, 4)
		did(t, g, late, 0)
	}
	g.Outcomes()
	index := proposed(t, g, who, "b")
	rounds(t, g, 4)
	for i := range 3 {
		if i != late {
			did(t, g, i, index, "a", "b")
		}
	}
}
