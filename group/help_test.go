package group

import (
	"fmt"
	"math"
	"reflect"
	"slices"
	"strconv"
	"strings"
	"testing"

	"vidimus/api"
	"vidimus/log"
	"vidimus/raft"
)

const nobody = api.Nobody

// book: a machine that writes down all that it does.
type book struct {
	did  []string
	told []string // the states from which it was asked to be restored
	deaf bool     // it takes no state
}

func (b *book) Apply(cmd string) string {
	b.did = append(b.did, cmd)
	return answerOf(len(b.did), cmd)
}

func (b *book) State() string { return stateOf(b.did) }

func (b *book) Restore(state string) bool {
	b.told = append(b.told, state)
	did, ok := didOf(state)
	if b.deaf || !ok {
		return false
	}
	b.did = did
	return true
}

// answerOf: what a book answers to its n-th command.
func answerOf(n int, cmd string) string { return fmt.Sprintf("%d: %s", n, cmd) }

// stateOf: the state of a book that did these.
func stateOf(did []string) string {
	var out []string
	for _, cmd := range did {
		out = append(out, strconv.Quote(cmd))
	}
	return strings.Join(out, " ")
}

// didOf: what a book of that state did, and whether there is such.
func didOf(state string) ([]string, bool) {
	var out []string
	for state != "" {
		q, err := strconv.QuotedPrefix(state)
		if err != nil {
			return nil, false
		}
		cmd, _ := strconv.Unquote(q)
		out = append(out, cmd)
		state = strings.TrimPrefix(state[len(q):], " ")
	}
	return out, true
}

// shelf: all books that were made.
type shelf struct{ all []*book }

func (s *shelf) machine() Machine {
	b := &book{}
	s.all = append(s.all, b)
	return b
}

// made: a group of n nodes, with books.
func made(t *testing.T, n int) (*Group, *shelf) {
	t.Helper()
	s := &shelf{}
	g, err := New(n, s.machine)
	right(t, err, api.OK)
	if g == nil {
		t.Fatalf("no group of %d", n)
	}
	return g, s
}

// bookOf: that of the node i.
func bookOf(g *Group, i int) *book { return g.Machine(i).(*book) }

// right: a call answered what the chapter asks for.
func right(t *testing.T, got, want api.Errno) {
	t.Helper()
	if got != want {
		t.Errorf("error %d; asked for %d", got, want)
	}
}

// ticks: so many of that node.
func ticks(g *Group, i, n int) {
	for range n {
		g.Tick(i)
	}
}

// deliver: all that is on its way, the first one first, till nothing is; what goes to those that are away, or comes from them, is lost.
func deliver(t *testing.T, g *Group, away ...int) {
	t.Helper()
	for k := 0; g.Net().Len() > 0; k++ {
		if k > 100000 {
			t.Fatal("messages without an end")
		}
		m, _, _ := g.Net().At(0)
		if slices.Contains(away, m.To) || slices.Contains(away, m.From) {
			g.Net().Drop(0)
		} else if !g.Deliver(0) {
			t.Fatal("a message isn't delivered")
		}
	}
}

// rounds: so many, in each of which all nodes tick, and all is delivered.
func rounds(t *testing.T, g *Group, n int, away ...int) {
	t.Helper()
	for range n {
		for i := range g.members {
			g.Tick(i)
		}
		deliver(t, g, away...)
	}
}

// leader: the one whom all follow that aren't away, or Nobody.
func leader(g *Group, away ...int) int {
	who := nobody
	for i := range g.members {
		x := g.Node(i)
		if slices.Contains(away, i) {
			continue
		}
		if who == nobody {
			who = x.Leader()
		}
		if who == nobody || x.Leader() != who || x.Log().Term() != g.Node(who).Log().Term() {
			return nobody
		}
	}
	if g.Node(who).Role() != api.Leader || slices.Contains(away, who) {
		return nobody
	}
	return who
}

// led: a leader, once rounds led to one.
func led(t *testing.T, g *Group, away ...int) int {
	t.Helper()
	for range 300 {
		rounds(t, g, 1, away...)
		if who := leader(g, away...); who != nobody {
			// and all have heard how far that is
			rounds(t, g, 6, away...)
			return who
		}
	}
	t.Fatal("no leader")
	return nobody
}

// proposed: the command is one that a leader took: its index.
func proposed(t *testing.T, g *Group, i int, cmd string) uint64 {
	t.Helper()
	index, term := g.Propose(i, cmd)
	if index != g.Node(i).Log().Last() || index == 0 || term != g.Node(i).Log().Term() {
		t.Fatalf("Propose(%d, %q): %d, %d", i, cmd, index, term)
	}
	return index
}

// outcomes: just these, in that order.
func outcomes(t *testing.T, g *Group, want ...api.Outcome) {
	t.Helper()
	if got := g.Outcomes(); !slices.Equal(got, want) {
		t.Errorf("outcomes %+v; asked for %+v", got, want)
	}
}

// did: the machine of the node i did just these, and the node applied up to that index.
func did(t *testing.T, g *Group, i int, applied uint64, want ...string) {
	t.Helper()
	if got := bookOf(g, i).did; !slices.Equal(got, want) || g.Applied(i) != applied {
		t.Errorf("node %d did %q, up to %d; asked for %q, up to %d", i, got, g.Applied(i), want, applied)
	}
}

// way: just these are on their way, in that order.
func way(t *testing.T, g *Group, want ...api.Msg) {
	t.Helper()
	got := wayOf(g)
	same := slices.EqualFunc(got, want, func(a, b api.Msg) bool {
		entries := slices.Equal(a.Entries, b.Entries)
		a.Entries, b.Entries = nil, nil
		return entries && reflect.DeepEqual(a, b)
	})
	if !same {
		t.Errorf("on their way are %+v; asked for %+v", got, want)
	}
}

func wayOf(g *Group) []api.Msg {
	var out []api.Msg
	for k := range g.Net().Len() {
		m, _, _ := g.Net().At(k)
		out = append(out, m)
	}
	return out
}

// logOf: what that log tells.
func logOf(l *log.Log) string {
	base, term, state := l.Base()
	var entries []api.Entry
	for index := base + 1; index <= l.Last(); index++ {
		e, _ := l.At(index)
		entries = append(entries, e)
	}
	return fmt.Sprintf("term %d, vote %d, base %d of %d %q, entries %+v", l.Term(), l.Vote(), base, term, state, entries)
}

// nodeOf: what that node and its log tell.
func nodeOf(x *raft.Node) string {
	return fmt.Sprintf("role %d, leader %d, commit %d, down %t, %s", x.Role(), x.Leader(), x.Commit(), x.Down(), logOf(x.Log()))
}

// tell: all that the group tells, but for outcomes.
func tell(g *Group) string {
	out := fmt.Sprintf("%+v\n", wayOf(g))
	for i := range g.members {
		out += fmt.Sprintf("%s; did %q, up to %d\n", nodeOf(g.Node(i)), bookOf(g, i).did, g.Applied(i))
	}
	return out
}

// off: numbers that name none of n nodes.
func off(n int) []int {
	return []int{-1, n, n + 1, 1000, math.MinInt, math.MaxInt, -n, 1 << 32, math.MinInt32}
}
