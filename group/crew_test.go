package group

import (
	"fmt"
	"math/rand"
	"reflect"
	"slices"
	"testing"

	"vidimus/api"
)

// crew: a group beside its model, and what was seen of it.
type crew struct {
	t       *testing.T
	r       *rand.Rand
	g       *Group
	m       *model
	away    []bool         // those that do nothing, and are told nothing
	leaders map[uint64]int // who led each term
	agreed  []api.Entry    // from index 1 on
	since   []uint64       // the term in which each of these was
}

func newCrew(t *testing.T, n int, seed int64) *crew {
	t.Helper()
	g, _ := made(t, n)
	c := &crew{t: t, r: rand.New(rand.NewSource(seed)), g: g, m: newModel(n), away: make([]bool, n), leaders: map[uint64]int{}}
	for i := range n {
		c.safe(i)
	}
	return c
}

// safe: what P11.1 asks for holds of the node, which did something.
func (c *crew) safe(i int) {
	c.t.Helper()
	x := c.g.Node(i)
	l := x.Log()
	base, _, _ := l.Base()
	for index := base + 1; index <= x.Commit(); index++ {
		e, ok := l.At(index)
		if index == uint64(len(c.agreed))+1 {
			c.agreed = append(c.agreed, e)
			c.since = append(c.since, l.Term())
		}
		if c.agreed[index-1] != e || !ok {
			c.t.Fatalf("node %d has %+v at %d; another one %+v", i, e, index, c.agreed[index-1])
		}
	}
	if c.g.Applied(i) != x.Commit() {
		c.t.Fatalf("node %d applied up to %d; asked for %d", i, c.g.Applied(i), x.Commit())
	}
	if got, want := bookOf(c.g, i).did, c.commands(c.g.Applied(i)); !slices.Equal(got, want) {
		c.t.Fatalf("node %d did %q; asked for %q", i, got, want)
	}
	if x.Role() == api.Leader {
		c.leads(i)
	}
}

// leads: likewise of a leader.
func (c *crew) leads(i int) {
	c.t.Helper()
	l := c.g.Node(i).Log()
	if who, ok := c.leaders[l.Term()]; ok && who != i {
		c.t.Fatalf("nodes %d and %d lead term %d", who, i, l.Term())
	}
	c.leaders[l.Term()] = i
	base, _, _ := l.Base()
	for k, e := range c.agreed {
		index := uint64(k) + 1
		if c.since[k] > l.Term() || index <= base {
			continue
		}
		if got, ok := l.At(index); got != e || !ok {
			c.t.Fatalf("leader %d of term %d has %+v at %d; agreed on in term %d was %+v", i, l.Term(), got, index, c.since[k], e)
		}
	}
}

// commands: those that were agreed on up to that index.
func (c *crew) commands(index uint64) []string {
	var out []string
	for _, e := range c.agreed[:index] {
		if e.Cmd != "" {
			out = append(out, e.Cmd)
		}
	}
	return out
}

// held: the node tells what its model tells, behind that call of it, and what P11.1 asks for holds.
func (c *crew) held(i int, call string) {
	c.t.Helper()
	got := fmt.Sprintf("%s; did %q, up to %d", nodeOf(c.g.Node(i)), bookOf(c.g, i).did, c.g.Applied(i))
	want := fmt.Sprintf("%s; did %q, up to %d", nodeOf(c.m.nodes[i]), c.m.did[i], c.m.applied[i])
	if got != want {
		c.t.Fatalf("behind %s: node %d: %s; asked for %s", call, i, got, want)
	}
	if got, want := c.g.Net().Len(), len(c.m.way); got != want {
		c.t.Fatalf("behind %s: %d are on their way; asked for %d", call, got, want)
	}
	// what was sent stands behind all others; a node sends one message to each other one, at most
	for k := max(0, len(c.m.way)-8); k < len(c.m.way); k++ {
		if got, _, _ := c.g.Net().At(k); !reflect.DeepEqual(got, c.m.way[k]) {
			c.t.Fatalf("behind %s: on its way is %+v; asked for %+v", call, got, c.m.way[k])
		}
	}
	c.safe(i)
}

// asked: the outcomes are the model's.
func (c *crew) asked() {
	c.t.Helper()
	if got := c.g.Outcomes(); !slices.Equal(got, c.m.outcomes) {
		c.t.Fatalf("outcomes %+v; asked for %+v", got, c.m.outcomes)
	}
	c.m.outcomes = nil
}

func (c *crew) tick(i int) {
	c.t.Helper()
	c.g.Tick(i)
	c.m.tick(i)
	c.held(i, "Tick")
}

// deliver: the message at that place, if anybody is there.
func (c *crew) deliver(k int) {
	c.t.Helper()
	to := c.m.way[k].To
	if c.away[to] {
		c.drop(k)
		return
	}
	if !c.g.Deliver(k) {
		c.t.Fatalf("Deliver(%d): false", k)
	}
	c.m.deliver(k)
	c.held(to, "Deliver")
}

func (c *crew) drop(k int) {
	c.g.Net().Drop(k)
	c.m.take(k)
}

func (c *crew) twice(k int) {
	c.g.Net().Twice(k)
	c.m.way = append(c.m.way, c.m.way[k])
}

func (c *crew) propose(i int, cmd string) uint64 {
	c.t.Helper()
	index, term := c.g.Propose(i, cmd)
	if k, u := c.m.propose(i, cmd); index != k || term != u {
		c.t.Fatalf("Propose(%d, %q): %d, %d; asked for %d, %d", i, cmd, index, term, k, u)
	}
	c.held(i, "Propose")
	return index
}

func (c *crew) compact(i int) {
	c.t.Helper()
	if got, want := c.g.Compact(i), c.m.compact(i); got != want {
		c.t.Fatalf("Compact(%d): %d; asked for %d", i, got, want)
	}
	c.held(i, "Compact")
}

func (c *crew) crash(i, keep int) {
	c.t.Helper()
	c.g.Crash(i, keep)
	c.m.crash(i, keep)
	c.held(i, "Crash")
}

func (c *crew) fuel(i, n int) {
	c.t.Helper()
	c.g.Fuel(i, n)
	c.m.disks[i].Fuel(n)
	c.held(i, "Fuel")
}

// any: something is done, with falls or without.
func (c *crew) any(falls bool) {
	c.t.Helper()
	i := c.r.Intn(len(c.away))
	way := len(c.m.way)
	switch k := c.r.Intn(100); {
	case k < 1:
		c.away[i] = !c.away[i]
	case k < 2:
		// one without patience: others lead too
		for range 21 {
			c.tick(i)
		}
	case k < 50 && way > 0:
		c.deliver(c.r.Intn(min(way, 1+c.r.Intn(30))))
	case k < 55 && way > 0:
		c.twice(c.r.Intn(way))
	case k < 60 && way > 0:
		c.drop(c.r.Intn(way))
	case k < 80:
		c.tick(i)
	case k < 88:
		c.propose(i, c.command())
	case k < 91:
		c.compact(i)
	case k < 94:
		c.asked()
	case k < 97 && falls:
		c.fuel(i, c.r.Intn(6)-1)
	case k < 99 && falls:
		c.crash(i, c.r.Intn(100)-1)
	}
}

// command: one of many, or that of which nothing comes.
func (c *crew) command() string {
	switch c.r.Intn(10) {
	case 0:
		return ""
	case 1:
		return "\xff\x00 \"a\"\n"
	}
	return fmt.Sprint("command ", c.r.Intn(1000))
}

// up: all nodes are there, and none goes down from now on.
func (c *crew) up() {
	c.t.Helper()
	clear(c.away)
	for i := range c.away {
		if c.g.Node(i).Down() {
			c.crash(i, c.r.Intn(100)-1)
		}
		c.fuel(i, -1)
	}
}

// anyWay: a group whose nodes tick, are told what is on its way, late, twice or not at all, take commands, compact, go down and crash, in any order.
func anyWay(t *testing.T, n int, seed int64, calls int, falls bool) *crew {
	t.Helper()
	c := newCrew(t, n, seed)
	for range calls {
		c.any(falls)
	}
	c.asked()
	if got, want := tell(c.g), c.m.tell(); got != want {
		t.Fatalf("%s; asked for %s", got, want)
	}
	return c
}

// P11.1: whatever is done, without falls: one leader a term, one list of entries, that each leader has, one list of commands.
func TestSafe(t *testing.T) {
	for n := 1; n <= 9; n++ {
		for seed := range int64(10) {
			anyWay(t, n, seed, 300+300*n, false)
		}
	}
}

// P11.1, P0.2: likewise, and disks go down at any step, and crash.
func TestSafeFalls(t *testing.T) {
	for n := 1; n <= 9; n++ {
		for seed := range int64(10) {
			anyWay(t, n, seed, 300+300*n, true)
		}
	}
}

// P0.5: the same steps lead to the same.
func TestTwiceTheSame(t *testing.T) {
	for n := 1; n <= 9; n += 2 {
		if a, b := tell(anyWay(t, n, 7, 1000, true).g), tell(anyWay(t, n, 7, 1000, true).g); a != b {
			t.Errorf("%s\n%s", a, b)
		}
	}
}
