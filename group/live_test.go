package group

import (
	"fmt"
	"math/rand"
	"slices"
	"testing"
)

// turn: how in a round all nodes tick, and all that is on its way is delivered.
type turn struct {
	name string
	each bool                            // all is delivered behind each node's tick
	next func(r *rand.Rand, way int) int // the place of the message that is delivered next
}

func turns() []turn {
	return []turn{
		plain(),
		{"behind each tick", true, plain().next},
		{"in any order", false, func(r *rand.Rand, way int) int { return r.Intn(way) }},
		{"last one first", false, func(_ *rand.Rand, way int) int { return way - 1 }},
	}
}

func plain() turn {
	return turn{"first one first", false, func(*rand.Rand, int) int { return 0 }}
}

// settle: all that is on its way is delivered, and all that comes of it.
func (c *crew) settle(x turn) {
	c.t.Helper()
	for k := 0; len(c.m.way) > 0; k++ {
		if k > 100000 {
			c.t.Fatal("messages without an end")
		}
		c.deliver(x.next(c.r, len(c.m.way)))
	}
}

// round: each node ticks, and all is delivered.
func (c *crew) round(x turn) {
	c.t.Helper()
	for i := range c.away {
		if c.away[i] {
			continue
		}
		c.tick(i)
		if x.each {
			c.settle(x)
		}
	}
	c.settle(x)
}

// absent: the nodes that are away.
func (c *crew) absent() []int {
	var out []int
	for i, away := range c.away {
		if away {
			out = append(out, i)
		}
	}
	return out
}

// lacks: how many entries a node lacks that another one has, at most. What stands behind a commit index may be none of the others'.
func (c *crew) lacks() int {
	most, least := uint64(0), c.g.Node(0).Commit()
	for i := range c.away {
		most = max(most, c.g.Node(i).Log().Last())
		least = min(least, c.g.Node(i).Commit())
	}
	return int(most - least)
}

// comes: a leader whom all follow who are there, within as many rounds as P11.2 says. One lasts once it has fed all, so that nobody's patience is at its end.
func (c *crew) comes(x turn) int {
	c.t.Helper()
	limit := 300 + (c.lacks()+7)/8
	for k, lasts := 0, 0; k < limit; k++ {
		c.round(x)
		lasts++
		if leader(c.g, c.absent()...) == nobody {
			lasts = 0
		}
		if lasts == 4 {
			return leader(c.g, c.absent()...)
		}
	}
	c.t.Fatalf("no leader in %d rounds: %s", limit, tell(c.g))
	return nobody
}

// goesOn: a leader comes, and what is proposed to it then is applied by all who are there within 10 rounds.
func (c *crew) goesOn(x turn, cmd string) {
	c.t.Helper()
	c.asked()
	who := c.comes(x)
	index := c.propose(who, cmd)
	for range 10 {
		c.round(x)
	}
	told := map[int]int{}
	for _, o := range c.g.Outcomes() {
		if o.Index == index && o.Out == answerOf(len(c.commands(index)), cmd) {
			told[o.Node]++
		}
	}
	c.m.outcomes = nil
	for i, away := range c.away {
		if !away && (c.g.Applied(i) < index || told[i] != 1) {
			c.t.Fatalf("node %d applied up to %d; %d was proposed to %d; outcomes of it: %v", i, c.g.Applied(i), index, who, told)
		}
	}
}

// P11.2: behind whatever was done, once no node goes down any more, and all is delivered: a leader whom all follow, and what is proposed to it is applied by all.
func TestLive(t *testing.T) {
	for _, x := range turns() {
		for n := 1; n <= 9; n++ {
			for seed := range int64(3) {
				c := anyWay(t, n, 100+seed, 200+200*n, seed > 0)
				c.up()
				c.goesOn(x, "the last one")
				c.goesOn(x, "one more")
			}
		}
	}
}

// P11.2: the leader stays: there is one behind 300 rounds, and behind as many more it is the same.
func TestLeaderStays(t *testing.T) {
	for n := 1; n <= 9; n++ {
		g, _ := made(t, n)
		rounds(t, g, 300)
		who := leader(g)
		rounds(t, g, 300)
		if who == nobody || leader(g) != who {
			t.Errorf("%d nodes: %d leads, and later on %d", n, who, leader(g))
		}
		index := proposed(t, g, who, "a")
		rounds(t, g, 10)
		for i := range n {
			did(t, g, i, index, "a")
		}
	}
}

// P11.2: a node that lacks very many entries, and has as many that are given up.
func TestLacks(t *testing.T) {
	for _, n := range []int{3, 5, 9} {
		for _, compacts := range []bool{false, true} {
			c, who := alone(t, n, 150)
			for i := range c.away {
				c.away[i] = i == who
			}
			other := c.comes(plain())
			var want []string
			for k := range 200 {
				want = append(want, fmt.Sprint("command ", k))
				c.propose(other, want[k])
				c.settle(plain())
			}
			c.goesOn(plain(), "the last one but one")
			if compacts {
				c.compact(other)
			}
			clear(c.away)
			c.goesOn(plain(), "the last one")
			want = append(want, "the last one but one", "the last one")
			for i := range c.away {
				if got := bookOf(c.g, i); !slices.Equal(got.did, want) || len(got.told) > 0 != (compacts && i == who) {
					t.Errorf("node %d did %q, restored from %q", i, got.did, got.told)
				}
			}
		}
	}
}

// P11.2: of two nodes one that lacks very many entries, all of which are agreed on.
func TestLacksOfTwo(t *testing.T) {
	c, _ := alone(t, 2, 150)
	clear(c.away)
	c.goesOn(plain(), "the last one")
	for i := range c.away {
		if got := bookOf(c.g, i).did; len(got) != 151 || got[0] != "in vain 0" || got[149] != "in vain 149" {
			t.Errorf("node %d did %q", i, got)
		}
	}
}

// alone: a crew whose leader goes on alone, so that nothing of that is agreed on: so many commands.
func alone(t *testing.T, n, commands int) (*crew, int) {
	t.Helper()
	c := newCrew(t, n, int64(n))
	who := c.comes(plain())
	for i := range c.away {
		c.away[i] = i != who
	}
	for k := range commands {
		c.propose(who, fmt.Sprint("in vain ", k))
		c.settle(plain())
	}
	return c, who
}

// P0.6, P11.2: a majority goes on without those that are down; they have all of it once they are back.
func TestMajorityGoesOn(t *testing.T) {
	for n := 1; n <= 9; n++ {
		for seed := range int64(4) {
			c := newCrew(t, n, seed)
			for _, i := range c.r.Perm(n)[:(n-1)/2] {
				c.goesDown(i)
			}
			for k := range 12 {
				c.goesOn(plain(), fmt.Sprint("command ", k))
				if k == 8 {
					c.compact(c.comes(plain()))
				}
			}
			c.up()
			c.goesOn(plain(), "the last one")
			for i := range n {
				if got := bookOf(c.g, i).did; len(got) != 13 || got[12] != "the last one" {
					t.Errorf("node %d did %q", i, got)
				}
			}
		}
	}
}

// goesDown: the node's disk does no step more, and it stands till it notices.
func (c *crew) goesDown(i int) {
	c.t.Helper()
	c.fuel(i, 0)
	for range 25 {
		c.tick(i)
	}
	if c.propose(i, "in vain") != 0 || !c.g.Node(i).Down() {
		c.t.Fatalf("node %d is up: %s", i, nodeOf(c.g.Node(i)))
	}
	c.away[i] = true
}

// P11.1: a minority applies nothing more, whatever is proposed to it; once the others are back, it goes on.
func TestMinorityWaits(t *testing.T) {
	for n := 2; n <= 9; n++ {
		c := newCrew(t, n, int64(n))
		c.goesOn(plain(), "the first one")
		who := c.comes(plain())
		applied := c.g.Applied(who)
		for i, gone := 0, 0; gone < (n+1)/2; i++ {
			if i != who {
				c.goesDown(i)
				gone++
			}
		}
		for k := range 40 {
			c.propose(who, fmt.Sprint("in vain ", k))
			c.round(plain())
		}
		for i := range n {
			if c.g.Applied(i) > applied || !slices.Equal(bookOf(c.g, i).did, []string{"the first one"}) {
				t.Errorf("node %d applied up to %d; it was %d", i, c.g.Applied(i), applied)
			}
		}
		outcomes(t, c.g)
		c.up()
		c.goesOn(plain(), "the last one")
	}
}

// P0.2: all nodes crash, at any time: what was told is so.
func TestAllCrash(t *testing.T) {
	for n := 1; n <= 9; n++ {
		c := newCrew(t, n, int64(n))
		for k := range 6 {
			c.goesOn(plain(), fmt.Sprint("command ", k))
			if k%2 == 1 {
				c.compact(c.r.Intn(n))
			}
			for i := range n {
				c.crash(i, c.r.Intn(100)-1)
			}
		}
		c.goesOn(plain(), "the last one")
		for i := range n {
			want := []string{"command 0", "command 1", "command 2", "command 3", "command 4", "command 5", "the last one"}
			if got := bookOf(c.g, i).did; !slices.Equal(got, want) {
				t.Errorf("node %d did %q; asked for %q", i, got, want)
			}
		}
	}
}

// P11.1, P11.2, P0.2: groups, told by a number.
func FuzzGroup(f *testing.F) {
	f.Add(int64(1), uint8(3), uint16(300), true)
	f.Fuzz(func(t *testing.T, seed int64, n uint8, calls uint16, falls bool) {
		c := anyWay(t, 1+int(n%9), seed, int(calls%3000), falls)
		c.up()
		c.goesOn(turns()[uint64(seed)%4], "the last one")
	})
}
