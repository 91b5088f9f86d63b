package raft

import (
	"fmt"
	"hash/fnv"
	"math/rand"
	"slices"
	"testing"

	"vidimus/api"
)

// crowd: several nodes, each beside its model, and what is on its way between them.
type crowd struct {
	t       *testing.T
	r       *rand.Rand
	nodes   []*pair
	way     []api.Msg
	away    []bool         // those that do nothing, and are told nothing
	leaders map[uint64]int // who led each term
	agreed  []api.Entry    // from index 1 on
	since   []uint64       // the term in which each of these was
	seen    []promise
}

// promise: the vote that a node gave in a term, the last one that was seen of it.
type promise struct {
	term uint64
	vote int
}

func newCrowd(t *testing.T, n int, seed int64) *crowd {
	t.Helper()
	c := &crowd{t: t, r: rand.New(rand.NewSource(seed)), leaders: map[uint64]int{}, away: make([]bool, n)}
	for id := range n {
		c.nodes = append(c.nodes, start(t, id, n, empty()))
		c.seen = append(c.seen, promise{0, nobody})
	}
	return c
}

// state: what stands for all entries that were agreed on up to an index.
func (c *crowd) state(index uint64) string {
	if index == 0 {
		return "state"
	}
	h := fnv.New64a()
	for _, e := range c.agreed[:index] {
		fmt.Fprintf(h, "%d %q,", e.Term, e.Cmd)
	}
	return fmt.Sprintf("%d: %x", index, h.Sum64())
}

// sends: of what the node sends each message is put on its way, and what must hold at all times is looked at.
func (c *crowd) sends(i int, l []api.Msg) {
	c.t.Helper()
	c.way = append(c.way, l...)
	c.safe(i)
	if c.nodes[i].x.Down() {
		c.nodes[i].silent()
		c.restart(i)
	}
}

// safe: the node's term hasn't gone back, nor has its vote changed in one; it is alone in leading its term, and has what was agreed on ahead of that; what it takes for agreed on all others did too.
func (c *crowd) safe(i int) {
	c.t.Helper()
	x := c.nodes[i].x
	l, was := x.Log(), c.seen[i]
	if l.Term() < was.term || l.Term() == was.term && was.vote != nobody && l.Vote() != was.vote {
		c.t.Fatalf("node %d: %s; it was %v", i, tellOf(x), was)
	}
	c.seen[i] = promise{l.Term(), l.Vote()}
	if term, _ := l.TermAt(l.Last()); term > l.Term() {
		c.t.Fatalf("node %d: an entry of term %d in term %d", i, term, l.Term())
	}
	base, _, state := l.Base()
	for index := base + 1; index <= x.Commit(); index++ {
		e, ok := l.At(index)
		if index == uint64(len(c.agreed))+1 {
			c.agreed = append(c.agreed, e)
			c.since = append(c.since, l.Term())
		}
		if c.agreed[index-1] != e || !ok {
			c.t.Fatalf("node %d has %v at %d; another one %v", i, e, index, c.agreed[index-1])
		}
	}
	if want := c.state(base); state != want {
		c.t.Fatalf("node %d has state %q; asked for %q", i, state, want)
	}
	if x.Role() == api.Leader {
		c.leads(i)
	}
}

// leads: likewise of a leader.
func (c *crowd) leads(i int) {
	c.t.Helper()
	x := c.nodes[i].x
	term := x.Log().Term()
	if who, ok := c.leaders[term]; ok && who != i {
		c.t.Fatalf("nodes %d and %d lead term %d", who, i, term)
	}
	c.leaders[term] = i
	base, _, _ := x.Log().Base()
	for k, e := range c.agreed {
		index := uint64(k) + 1
		if c.since[k] > term || index <= base {
			continue
		}
		if got, ok := x.Log().At(index); got != e || !ok {
			c.t.Fatalf("leader %d of term %d has %v at %d; agreed on in term %d was %v", i, term, got, index, c.since[k], e)
		}
	}
}

// restart: the node's disk crashes, and it is started anew.
func (c *crowd) restart(i int) {
	c.t.Helper()
	c.nodes[i] = c.nodes[i].restarted(c.r.Intn(100) - 1)
	c.safe(i)
}

// deliver: the message at that place is received, if anybody is there.
func (c *crowd) deliver(k int) {
	c.t.Helper()
	g := c.way[k]
	c.way = slices.Delete(c.way, k, k+1)
	if !c.away[g.To] {
		c.sends(g.To, c.nodes[g.To].receive(g))
	}
}

// any: something is done, with falls of disks or without.
func (c *crowd) any(falls bool) {
	c.t.Helper()
	i := c.r.Intn(len(c.nodes))
	p := c.nodes[i]
	switch k := c.r.Intn(100); {
	case k < 1:
		c.away[i] = !c.away[i]
	case k < 2:
		// one without patience: others lead too
		c.sends(i, p.goesAround())
	case k < 50 && len(c.way) > 0:
		c.deliver(c.r.Intn(min(len(c.way), 1+c.r.Intn(30))))
	case k < 55 && len(c.way) > 0:
		c.way = append(c.way, c.way[c.r.Intn(len(c.way))])
	case k < 60 && len(c.way) > 0:
		j := c.r.Intn(len(c.way))
		c.way = slices.Delete(c.way, j, j+1)
	case k < 82:
		c.sends(i, p.tick())
	case k < 90:
		_, _, l := p.propose(fmt.Sprintf("command %d", c.r.Intn(1000)))
		c.sends(i, l)
	case k < 93:
		base, _, _ := p.x.Log().Base()
		index := base + uint64(c.r.Intn(int(p.x.Commit()-base)+3)) - 1
		state := ""
		if index <= p.x.Commit() {
			state = c.state(index)
		}
		p.compact(index, state)
		c.sends(i, nil)
	case k < 96 && falls:
		p.d.Fuel(c.r.Intn(5))
	case k < 98 && falls:
		c.restart(i)
	}
}

// round: each node ticks, and all that is on its way is delivered.
func (c *crowd) round() {
	c.t.Helper()
	for i, p := range c.nodes {
		if !c.away[i] {
			c.sends(i, p.tick())
		}
	}
	for k := 0; len(c.way) > 0; k++ {
		if k > 100000 {
			c.t.Fatal("messages without an end")
		}
		c.deliver(0)
	}
}

// leader: the one that all who are there follow, or Nobody.
func (c *crowd) leader() int {
	who := nobody
	for i, p := range c.nodes {
		if c.away[i] {
			continue
		}
		if who == nobody {
			who = p.x.Leader()
		}
		if who == nobody || p.x.Leader() != who || p.x.Log().Term() != c.nodes[who].x.Log().Term() {
			return nobody
		}
	}
	if c.nodes[who].x.Role() != api.Leader {
		return nobody
	}
	return who
}

// goesOn: without falls a leader comes, and what is proposed to it is agreed on by all who are there.
func (c *crowd) goesOn() {
	c.t.Helper()
	for _, p := range c.nodes {
		p.d.Fuel(-1)
	}
	// a leader lasts once it has fed all, so that nobody's patience is at its end
	for k, lasts := 0, 0; lasts < 4; k++ {
		if k > 300 {
			c.t.Fatal("no leader")
		}
		c.round()
		lasts++
		if c.leader() == nobody {
			lasts = 0
		}
	}
	who := c.leader()
	index, term, l := c.nodes[who].propose("the last one")
	c.sends(who, l)
	for range 10 + len(c.agreed)/8 {
		c.round()
	}
	for i, p := range c.nodes {
		if e, ok := p.x.Log().At(index); !c.away[i] && (p.x.Commit() < index || ok && e != (api.Entry{Term: term, Cmd: "the last one"})) {
			c.t.Fatalf("node %d: %s; agreed on was %d of %d", i, tellOf(p.x), index, term)
		}
	}
}

// P9.1, P0.2, P0.6: several nodes whose messages are carried among them, late, twice, in any order or not at all, with commands and compactions and without falls; then all goes on.
func TestCrowd(t *testing.T) {
	for n := 1; n <= 9; n++ {
		for seed := range int64(12) {
			c := newCrowd(t, n, seed)
			for range 300 + 300*n {
				c.any(false)
			}
			clear(c.away)
			c.goesOn()
		}
	}
}

// P9.1, P0.2, P0.6: likewise, and disks go down at any step, and crash.
func TestCrowdFalls(t *testing.T) {
	for n := 1; n <= 9; n++ {
		for seed := range int64(12) {
			c := newCrowd(t, n, seed)
			for range 300 + 300*n {
				c.any(true)
			}
			clear(c.away)
			c.goesOn()
		}
	}
}

// P0.6: a majority goes on without the others; who was away has all of it once it is back.
func TestMajorityGoesOn(t *testing.T) {
	for n := 1; n <= 9; n++ {
		for seed := range int64(6) {
			c := newCrowd(t, n, seed)
			for _, i := range c.r.Perm(n)[:(n-1)/2] {
				c.away[i] = true
			}
			for range 5 {
				c.goesOn()
			}
			who := c.leader()
			right(t, c.nodes[who].compact(4, c.state(4)), api.OK)
			clear(c.away)
			c.goesOn()
			for i, p := range c.nodes {
				if p.x.Commit() < 7 {
					t.Errorf("node %d: %s", i, tellOf(p.x))
				}
			}
		}
	}
}

// P9.1: without a majority nobody wins, and nothing is agreed on.
func TestMinorityWaits(t *testing.T) {
	for n := 2; n <= 9; n++ {
		c := newCrowd(t, n, int64(n))
		for i := range (n + 1) / 2 {
			c.away[i] = true
		}
		for range 300 {
			c.round()
		}
		for i, p := range c.nodes {
			if p.x.Commit() != 0 || p.x.Role() == api.Leader || !c.away[i] && p.x.Log().Term() == 0 {
				t.Errorf("node %d: %s", i, tellOf(p.x))
			}
		}
	}
}

// P0.2: all nodes crash: what was agreed on is there.
func TestAllCrash(t *testing.T) {
	for n := 1; n <= 9; n++ {
		c := newCrowd(t, n, int64(n))
		for k := range 5 {
			c.goesOn()
			if k == 2 {
				who := c.leader()
				right(t, c.nodes[who].compact(3, c.state(3)), api.OK)
			}
			had := len(c.agreed)
			for i := range c.nodes {
				c.restart(i)
			}
			c.goesOn()
			if len(c.agreed) <= had {
				t.Errorf("%d entries, and no more", had)
			}
		}
	}
}

// P0.5: the same steps lead to the same.
func TestCrowdTwice(t *testing.T) {
	var told [2]string
	for k := range told {
		c := newCrowd(t, 5, 7)
		for range 2000 {
			c.any(true)
		}
		for _, p := range c.nodes {
			s, _ := p.d.Read()
			told[k] += fmt.Sprintf("%s %q\n", tellOf(p.x), s)
		}
		told[k] += fmt.Sprintf("%+v", c.way)
	}
	if told[0] != told[1] {
		t.Errorf("%s\n%s", told[0], told[1])
	}
}

// P9.1: one node, whatever it is told, in any order, beside its model.
func TestAnyCalls(t *testing.T) {
	for seed := range int64(1500) {
		anyCalls(t, seed)
	}
}

// anyCalls: a row of calls that the number tells.
func anyCalls(t *testing.T, seed int64) {
	t.Helper()
	r := rand.New(rand.NewSource(seed))
	n := 1 + r.Intn(5)
	var terms []uint64
	for range r.Intn(6) {
		terms = append(terms, uint64(r.Intn(4)))
	}
	k := kept{uint64(r.Intn(4)), r.Intn(n+1) - 1, uint64(r.Intn(4)), uint64(r.Intn(3)), terms}
	if k.base == 0 {
		k.baseTerm = 0
	}
	p := start(t, r.Intn(n), n, k)
	for range 120 {
		switch c := r.Intn(20); {
		case c < 5:
			p.tick()
		case c < 6:
			p.goesAround()
		case c < 7:
			p.propose("c")
		case c < 8:
			p.compact(p.x.Commit()+uint64(r.Intn(3))-1, "S")
		default:
			p.receive(p.anyMsg(r, n))
		}
	}
}

// goesAround: it ticks until it sends something, or is alone, or down.
func (p *pair) goesAround() []api.Msg {
	p.t.Helper()
	for range 21 {
		if l := p.tick(); len(l) > 0 || p.x.Down() {
			return l
		}
	}
	return nil
}

// anyMsg: one of which all might be, and that often fits the node.
func (p *pair) anyMsg(r *rand.Rand, n int) api.Msg {
	l := p.x.Log()
	near := func(n uint64) uint64 { return max(n, 3) + uint64(r.Intn(6)) - 3 }
	g := api.Msg{
		Kind: r.Intn(6) - r.Intn(2), From: r.Intn(n+2) - 1, To: p.m.id,
		Term: l.Term() + uint64(r.Intn(2)*r.Intn(2)), Index: near(l.Last()), Commit: near(l.Last()), OK: r.Intn(2) == 0, State: "S",
	}
	if r.Intn(6) == 0 {
		g.Term = near(l.Term())
	}
	g.LogTerm = near(g.Term)
	if term, ok := l.TermAt(g.Index); ok && r.Intn(4) > 0 {
		g.LogTerm = term
	}
	for i := range uint64(r.Intn(7)) {
		term, ok := l.TermAt(g.Index + 1 + i)
		if !ok || r.Intn(4) == 0 {
			term = near(g.Term)
		}
		g.Entries = append(g.Entries, api.Entry{Term: term, Cmd: "e"})
	}
	return g
}

// P9.1: calls in any order, told by a number.
func FuzzNode(f *testing.F) {
	f.Add(int64(1))
	f.Fuzz(func(t *testing.T, seed int64) { anyCalls(t, seed) })
}

// P9.1, P0.2: crowds, told by a number.
func FuzzCrowd(f *testing.F) {
	f.Add(int64(1), uint8(3), uint16(300), true)
	f.Fuzz(func(t *testing.T, seed int64, n uint8, calls uint16, falls bool) {
		c := newCrowd(t, 1+int(n%9), seed)
		for range calls % 3000 {
			c.any(falls)
		}
		clear(c.away)
		c.goesOn()
	})
}
