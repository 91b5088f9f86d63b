package group

import (
	"fmt"
	"math"
	"testing"

	"vidimus/api"
)

// move: a group in which a node is about to do something that its disk must keep.
type move struct {
	name string
	made func(t *testing.T) (*crew, int) // the group, and that node
	do   func(c *crew, i int)
}

// leading: a crew of n nodes, and its leader; some commands are agreed on.
func leading(t *testing.T, n int) (*crew, int) {
	t.Helper()
	c := newCrew(t, n, 1)
	who := c.comes(plain())
	c.propose(who, "a")
	c.propose(who, "b")
	for range 4 {
		c.round(plain())
	}
	return c, who
}

// following: likewise, and a follower, to whom the leader has sent a command.
func following(t *testing.T, n int) (*crew, int) {
	t.Helper()
	c, who := leading(t, n)
	c.propose(who, "c")
	return c, (who + 1) % n
}

// late: likewise one that was away, to whom the leader has sent something again; what it had alone is given up, or its entries are nowhere but in a base.
func late(t *testing.T, compacts bool) (*crew, int) {
	t.Helper()
	c, who := alone(t, 3, 3)
	for i := range c.away {
		c.away[i] = i == who
	}
	other := c.comes(plain())
	for _, cmd := range []string{"a", "b", "c", "d"} {
		c.propose(other, cmd)
		c.settle(plain())
	}
	if compacts {
		c.compact(other)
	}
	clear(c.away)
	for len(c.m.way) == 0 {
		c.tick(other)
	}
	return c, who
}

// standing: a crew in which that node is about to stand.
func standing(t *testing.T, n int) (*crew, int) {
	t.Helper()
	c, _ := leading(t, n)
	i := n - 1
	for k := range c.away {
		c.away[k] = k != i
	}
	c.crash(i, 0)
	limit := 10 + (7*i+3*int(c.g.Node(i).Log().Term()))%11
	for range limit - 1 {
		c.tick(i)
	}
	return c, i
}

func moves() []move {
	tick := func(c *crew, i int) { c.tick(i) }
	deliver := func(c *crew, _ int) { c.settle(plain()) }
	propose := func(c *crew, i int) { c.propose(i, "half") }
	compact := func(c *crew, i int) { c.compact(i) }
	return []move{
		{"stands", func(t *testing.T) (*crew, int) { return standing(t, 3) }, tick},
		{"stands alone", func(t *testing.T) (*crew, int) { return standing(t, 1) }, tick},
		{"wins", func(t *testing.T) (*crew, int) {
			c, i := standing(t, 3)
			c.tick(i)
			clear(c.away)
			return c, i
		}, deliver},
		{"votes", func(t *testing.T) (*crew, int) {
			c, i := standing(t, 3)
			c.tick(i)
			clear(c.away)
			return c, 0
		}, deliver},
		{"takes entries", func(t *testing.T) (*crew, int) { return following(t, 3) }, deliver},
		{"gives up entries", func(t *testing.T) (*crew, int) { return late(t, false) }, deliver},
		{"is restored", func(t *testing.T) (*crew, int) { return late(t, true) }, deliver},
		{"leads", func(t *testing.T) (*crew, int) { return leading(t, 3) }, propose},
		{"leads alone", func(t *testing.T) (*crew, int) { return leading(t, 1) }, propose},
		{"compacts", func(t *testing.T) (*crew, int) { return leading(t, 3) }, compact},
		{"compacts, following", func(t *testing.T) (*crew, int) { return following(t, 3) }, compact},
		{"compacts alone", func(t *testing.T) (*crew, int) { return leading(t, 1) }, compact},
	}
}

// fallen: the move is done, with so many steps of the disk.
func (m move) fallen(t *testing.T, steps int) (*crew, int) {
	t.Helper()
	c, i := m.made(t)
	c.asked()
	c.fuel(i, steps)
	m.do(c, i)
	return c, i
}

// P0.2, P11.1: a node's disk goes down at each step of what it does, and crashes, with each number of bytes kept; the node is as the base of its log says, and all goes on.
func TestFallAtEachStep(t *testing.T) {
	for _, m := range moves() {
		t.Run(m.name, func(t *testing.T) {
			steps := 0
			for {
				c, i := m.fallen(t, steps)
				if !c.g.Node(i).Down() {
					break
				}
				waits := c.g.members[i].disk.Waits()
				for keep := -1; keep < waits+2; keep++ {
					c, i = m.fallen(t, steps)
					c.back(i, keep)
				}
				c, i = m.fallen(t, steps)
				c.back(i, math.MaxInt)
				steps++
			}
			if steps == 0 {
				t.Error("nothing is made sure")
			}
		})
	}
}

// back: the node's disk crashes; nothing is applied but the base; of the others nothing has changed; then all goes on.
func (c *crew) back(i, keep int) {
	c.t.Helper()
	x := c.g.Node(i)
	applied := c.g.Applied(i)
	if x.Commit() != applied || c.g.Compact(i) != api.ErrDown {
		c.t.Fatalf("applied up to %d: %s", applied, nodeOf(x))
	}
	c.crash(i, keep)
	c.asked()
	x = c.g.Node(i)
	base, _, state := x.Log().Base()
	told := bookOf(c.g, i).told
	if x.Down() || x.Commit() != base || c.g.Applied(i) != base || x.Log().Last() < applied {
		c.t.Fatalf("applied up to %d, and then: %s", applied, nodeOf(x))
	}
	if base == 0 && len(told) > 0 || base != 0 && fmt.Sprint(told) != fmt.Sprint([]string{state}) {
		c.t.Fatalf("restored from %q; base %d", told, base)
	}
	clear(c.away)
	c.goesOn(plain(), "the last one")
}

// tale: what is done to a group of three, so that its nodes do all that nodes do.
func (c *crew) tale() {
	c.t.Helper()
	rounds := func(n int) {
		for range n {
			c.round(plain())
		}
	}
	proposes := func(cmds ...string) {
		for _, cmd := range cmds {
			for i := range c.away {
				if !c.away[i] && c.propose(i, cmd) != 0 {
					break
				}
			}
			c.settle(plain())
		}
	}
	for k := range 3 {
		rounds(25)
		proposes(fmt.Sprint("a", k), fmt.Sprint("b", k))
		c.away[k] = true
		rounds(25)
		proposes(fmt.Sprint("c", k), "", fmt.Sprint("d", k))
		rounds(3)
		c.compact((k + 1) % 3)
		c.compact((k + 2) % 3)
		clear(c.away)
	}
	rounds(25)
}

// P0.2, P11.1, P11.2: likewise at each step of all that a node does, from the beginning on.
func TestFallAtEachStepOfAll(t *testing.T) {
	for i := range 3 {
		for steps := 0; ; steps++ {
			c := newCrew(t, 3, int64(steps))
			c.fuel(i, steps)
			c.tale()
			if !c.g.Node(i).Down() {
				if steps < 20 {
					t.Errorf("node %d: %d steps", i, steps)
				}
				break
			}
			waits := c.g.members[i].disk.Waits()
			c.back(i, []int{-1, 0, 1, waits / 2, waits - 1, waits, waits + 1}[steps%7])
		}
	}
}

// P0.2, P11.1: all nodes crash at each time of a tale, with what they have on their way.
func TestAllFall(t *testing.T) {
	for seed := range int64(40) {
		c := newCrew(t, 3, seed)
		for i := range 3 {
			c.fuel(i, c.r.Intn(60))
		}
		c.tale()
		for i := range 3 {
			c.crash(i, c.r.Intn(100)-1)
		}
		c.goesOn(plain(), "the last one")
	}
}
