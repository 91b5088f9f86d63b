package shard

import (
	"fmt"
	"math/rand"
	"slices"
	"strings"
	"testing"

	"vidimus/api"
	"vidimus/group"
	"vidimus/header"
	"vidimus/trie"
)

// led: a shard that is led by commands alone, and what was seen of it.
type led struct {
	s     *Shard
	chain []api.Signed
	done  map[[2]uint64]int // how long the chain was behind each command that was done, by client and serial
}

// hears: a command; and what must hold behind any.
func (l *led) hears(t *testing.T, c string) api.Answer {
	t.Helper()
	state := l.s.State()
	a, ok := Answer(l.s.Apply(c))
	if !ok {
		t.Fatal("no answer")
	}
	chain := l.s.Chain()
	if len(chain) < len(l.chain) || !slices.Equal(chain[:len(l.chain)], l.chain) {
		t.Fatal("the chain doesn't just grow")
	}
	for i := max(1, len(l.chain)); i < len(chain); i++ {
		if !header.Follows(chain[i-1].Header, chain[i].Header) {
			t.Fatalf("%d doesn't follow", i)
		}
	}
	if chain[len(chain)-1].Header.Root != l.s.Map().Root() {
		t.Fatal("the last header's root isn't the map's")
	}
	cmd, ok := plainCommand(c)
	id := [2]uint64{cmd.client, cmd.serial}
	length, before := l.done[id]
	switch {
	case !ok || before || a.What == api.Old:
		if state != l.s.State() {
			t.Fatal("something is done by what is none, is old, or was done")
		}
	case len(chain) > len(l.chain):
		if a.What != api.Done || len(chain) != len(l.chain)+1 || chain[len(chain)-1] != cmd.next {
			t.Fatal("the chain grows by what isn't done")
		}
		l.done[id] = len(chain)
	case a.What == api.Done:
		t.Fatalf("done, but nothing grows; by this it was %d long", length)
	}
	l.chain = chain
	return a
}

// P13.2: behind many commands of any kind, lost, sent once or often, late, or over and over.
func TestStory(t *testing.T) {
	for seed := range int64(20) {
		r := rand.New(rand.NewSource(seed))
		x := started(uint64(seed))
		l := &led{s: x.s, chain: x.s.Chain(), done: map[[2]uint64]int{}}
		send := func(c string) {
			l.hears(t, c)
			// by the model the next ones are made that are right
			x.m.apply(c)
		}
		var sent []string
		for range 250 {
			sent = append(sent, anyCommand(r, x))
			for range r.Intn(3) {
				send(sent[len(sent)-1])
			}
			for range r.Intn(3) {
				send(sent[r.Intn(len(sent))])
			}
		}
		for _, c := range sent {
			send(c)
		}
		if len(l.done) < 30 || len(l.chain) != len(l.done)+1 {
			t.Errorf("seed %d: %d done, %d headers", seed, len(l.done), len(l.chain))
		}
	}
}

// P13.2: a swap that was done is done no more: not at once, not behind others, not where its hash would be right again, not behind a state.
func TestDoneOnce(t *testing.T) {
	x := started(4)
	c := x.swap(1, 1, puts("a", "1"), nil).bytes()
	x.is(t, "done", c, 1, api.Done)
	for range 3 {
		x.is(t, "again", c, 1, api.Done)
	}
	x.swaps(t, 2, 1, nil, keys("a"))
	x.is(t, "behind another client's delete", c, 1, api.Done)
	if x.s.Map().Len() != 0 || len(x.s.Chain()) != 3 {
		t.Error("it is done twice")
	}
	elder := x.s.State()
	x.swaps(t, 1, 2, puts("b", "2"), nil)
	x.is(t, "behind a later one of its own", c, 1, api.Old)
	s := New(4, header.First("key", 4))
	if !s.Restore(elder) {
		t.Fatal("no state")
	}
	if got := s.Apply(c); got != word(1, 1) || s.State() != elder {
		t.Errorf("behind a state: %s", brief(got))
	}
	if !s.Restore(x.s.State()) || s.Apply(c) != word(1, 4) || s.State() != x.s.State() {
		t.Error("behind another state")
	}
	// With a new serial it is another command, and other.
	again := x.swap(1, 3, puts("a", "1"), nil)
	again.hash, again.next = plainHash(x.s.Chain()[0].Header), x.s.Chain()[1]
	x.is(t, "by another serial", again.bytes(), 3, api.Other)
	again.serial, again.hash = 4, plainHash(x.last().Header)
	x.is(t, "by another serial, and the last hash", again.bytes(), 4, api.Bad)
}

// P13.2: if the map hasn't the first header's root, it has that of the first swap.
func TestFirstRoot(t *testing.T) {
	first := api.Signed{Header: api.Header{Shard: 4, Prev: fill(0), Root: fill(7)}}
	s := New(4, first)
	root := trie.New().Put(key("a"), "1").Root()
	next, _ := header.Next("key", first, root, 0, 0)
	if got := s.Apply(Swap(1, 1, header.Hash(first.Header), next, puts("a", "1"), nil)); got != word(1, 1) || s.Map().Root() != root {
		t.Error(brief(got))
	}
}

// settle: rounds, till nothing is on its way any more.
func settle(g *group.Group, n int) {
	for range 60 {
		for i := range n {
			g.Tick(i)
		}
		for g.Deliver(0) {
		}
	}
}

// P13.2: in a group all nodes' shards are the same, and as one that was led by the same commands alone, also behind states and crashes.
func TestInGroup(t *testing.T) {
	x := started(4)
	first := x.last()
	g, _ := group.New(3, func() group.Machine { return New(4, first) })
	propose := func(c string) {
		for range 20 {
			for i := range 3 {
				if index, _ := g.Propose(i, c); index > 0 {
					settle(g, 3)
					return
				}
			}
			settle(g, 3)
		}
		t.Fatal("nobody leads")
	}
	for round := range uint64(12) {
		c := x.swap(1, round, puts(fmt.Sprint(round), "v"), keys(fmt.Sprint(round/2))).bytes()
		look := Look(2, round, round, keys("a"), []api.Prefix{{Key: key("1"), Bits: 1}})
		for _, c := range []string{c, look, c, strings.ToUpper(c), c} {
			propose(c)
			x.hears(t, "alone", c)
		}
		if round%3 == 0 {
			g.Compact(int(round/3) % 3)
		}
		g.Crash(int(round%3), 0)
		settle(g, 3)
		for i := range 3 {
			s, ok := g.Machine(i).(*Shard)
			if !ok || s.State() != x.m.state() {
				t.Fatalf("round %d: node %d is another one", round, i)
			}
		}
	}
}
