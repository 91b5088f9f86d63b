package vkv

import (
	"fmt"
	"math/rand"
	"slices"
	"testing"

	"vidimus/api"
	"vidimus/disk"
	"vidimus/group"
	"vidimus/header"
	"vidimus/shard"
)

// town: an honest shard, several clients, and commands and answers on their way.
type town struct {
	t       *testing.T
	r       *rand.Rand
	s       *shard.Shard
	maps    map[api.Signed]pairs // the map at each header
	folk    []*person
	sent    []string // commands on their way
	told    []letter // answers on their way
	refused []api.Signed
	counts  map[string]int
}

type letter struct {
	to     int
	answer string
}

// person: a client, and what it has in mind.
type person struct {
	who     uint64
	d       *disk.Disk
	c       *Client
	life    uint64
	read    uint64 // the greatest Seq of a floor by which something was read
	asked   []string
	swapped api.Signed // the next header of the swap that is pending
	after   pairs      // the map that it leads to
	serial  uint64     // that of what is pending; 0: nothing is
	count   uint64
}

const names = 14

func newTown(t *testing.T, seed int64, clients int) *town {
	first := header.First("key", 4)
	w := &town{t: t, r: rand.New(rand.NewSource(seed)), s: shard.New(4, first), maps: map[api.Signed]pairs{first: {}}, counts: map[string]int{}}
	for i := range clients {
		p := &person{who: uint64(i * i * 100), d: disk.New()}
		w.folk = append(w.folk, p)
		w.opens(p)
	}
	return w
}

// opens: the client, on what its disk has; also one whose disk goes down by that.
func (w *town) opens(p *person) {
	for range w.r.Intn(2) {
		p.d.Fuel(0)
		if c, err := Open(p.d, "key", 4, p.who); c != nil || err != api.ErrDown {
			w.t.Fatalf("Open: %d", err)
		}
		p.d.Crash(w.r.Intn(3))
	}
	p.c = opened(w.t, p.d, "key", 4, p.who)
	p.life++
	p.serial, p.asked, p.count = 0, nil, 0
	f := p.c.Floor()
	if _, ok := w.maps[f]; !ok || f.Header.Seq < p.read || p.c.Life() != p.life {
		w.t.Fatalf("opened at %s, in life %d; read was %d, in life %d", brief(f), p.c.Life(), p.read, p.life-1)
	}
	w.counts["opened"]++
}

// some: names' keys.
func (w *town) some(most int) []string {
	var out []string
	for range w.r.Intn(most) {
		out = append(out, key(w.r.Intn(names)))
	}
	return out
}

// acts: one of the clients does something.
func (w *town) acts(p *person) {
	cmd, waits := p.c.Pending()
	if waits != (p.serial > 0) {
		w.t.Fatal("pending")
	}
	switch n := w.r.Intn(20); {
	case n == 0:
		p.d.Crash(w.r.Intn(100))
		w.opens(p)
	case n == 1:
		p.d.Fuel(w.r.Intn(3))
	case waits:
		w.sent = append(w.sent, cmd)
	case n < 9:
		w.looks(p)
	default:
		w.swaps(p)
	}
}

func (w *town) looks(p *person) {
	asked := w.some(8)
	var under []api.Prefix
	for range w.r.Intn(2) {
		under = append(under, api.Prefix{Key: key(w.r.Intn(99)), Bits: w.r.Intn(5)})
	}
	cmd, err := p.c.Look(asked, under)
	if err != api.OK {
		w.t.Fatalf("Look: %d", err)
	}
	p.asked = asked
	w.asks(p, cmd, lookBytes(p.who, p.life<<32+p.count+1, p.c.Floor().Header.Seq, asked, under))
}

// asks: that command is pending now.
func (w *town) asks(p *person, cmd, want string) {
	if cmd != want {
		w.t.Fatalf("%s; asked for %s", brief(cmd), brief(want))
	}
	p.count++
	p.serial = p.life<<32 + p.count
	for range w.r.Intn(3) {
		w.sent = append(w.sent, cmd)
	}
}

func (w *town) swaps(p *person) {
	var l []api.Pair
	for _, k := range w.some(4) {
		l = append(l, api.Pair{Key: k, Val: fmt.Sprint(w.r.Intn(5))})
	}
	d, stamp := w.some(4), w.r.Uint64()%3
	all := true
	for _, k := range d {
		all = all && slices.Contains(p.asked, k)
	}
	for _, x := range l {
		all = all && slices.Contains(p.asked, x.Key)
	}
	if len(p.asked) > 0 && w.r.Intn(3) > 0 {
		l, d, all = []api.Pair{{Key: p.asked[0], Val: fmt.Sprint(w.r.Intn(5))}}, p.asked[1:], true
	}
	floor := p.c.Floor()
	after := w.maps[floor].with(l, d)
	next := sealed("key", api.Header{Shard: 4, Seq: floor.Header.Seq + 1, Prev: plainHash(floor.Header), Root: after.root(), Who: p.who, Stamp: stamp})
	cmd, err := p.c.Swap(l, d, stamp)
	switch {
	case err == api.OK:
		p.swapped, p.after = next, after
		w.asks(p, cmd, swapBytes(p.who, p.life<<32+p.count+1, next, l, d))
	case err != api.ErrArg || cmd != "" || all && p.asked != nil:
		w.t.Fatalf("Swap: %d", err)
	default:
		w.counts["untold"]++
	}
}

// delivers: a command that is on its way is done, and stays on its way, or not.
func (w *town) delivers() {
	if len(w.sent) == 0 {
		return
	}
	i := w.r.Intn(len(w.sent))
	cmd := w.sent[i]
	if w.r.Intn(4) > 0 {
		w.sent = slices.Delete(w.sent, i, i+1)
	}
	if w.r.Intn(8) == 0 {
		return
	}
	answer := w.s.Apply(cmd)
	for to, p := range w.folk {
		if n := "l\x06n\x00" + num(p.who); cmd[:len(n)] == n || cmd[:len(n)+1] == "l\x07"+num(1)+num(p.who) {
			w.told = append(w.told, letter{to: to, answer: answer})
		}
	}
	m := pairs{}
	for _, p := range w.s.Map().All() {
		m[p.Key] = p.Val
	}
	chain := w.s.Chain()
	if _, ok := w.maps[chain[len(chain)-1]]; !ok {
		w.maps[chain[len(chain)-1]] = m
	}
}

// gives: an answer that is on its way is heard, and stays on its way, or not.
func (w *town) gives() {
	if len(w.told) == 0 {
		return
	}
	i := w.r.Intn(len(w.told))
	l := w.told[i]
	if w.r.Intn(4) > 0 {
		w.told = slices.Delete(w.told, i, i+1)
	}
	if w.r.Intn(8) > 0 {
		w.hears(w.folk[l.to], l.answer)
	}
}

// hears: P14.1 of one answer.
func (w *town) hears(p *person, answer string) {
	a, _ := shard.Answer(answer)
	was, floor := p.serial, p.c.Floor()
	err := p.c.Heard(answer)
	switch {
	case err == api.ErrDown:
		w.counts["down"]++
		if p.c.Floor() != floor || !p.c.Down() {
			w.t.Fatal("down")
		}
		p.d.Crash(w.r.Intn(3))
		w.opens(p)
		return
	case was == 0:
		if err != api.ErrArg {
			w.t.Fatalf("nothing was pending: %d", err)
		}
	case a.Serial != was:
		if err != api.ErrLost {
			w.t.Fatalf("to another serial: %d", err)
		}
		w.counts["lost"]++
	case a.What == api.Seen && err == api.OK:
		p.serial = 0
		w.counts["seen"]++
	case a.What == api.Done && err == api.OK && p.c.Floor() == p.swapped:
		p.serial = 0
		// Of what is deleted, and of what would stand there, a hash beside it may be all that is left.
		p.asked = slices.DeleteFunc(slices.Clone(p.asked), func(k string) bool {
			_, _, err := p.c.Get(k)
			return err != api.OK
		})
		w.counts["done"]++
		if _, ok := w.maps[p.swapped]; !ok {
			w.t.Fatal("it isn't done")
		}
		if got := w.maps[p.swapped].root(); got != p.after.root() {
			w.t.Fatal("it is done on another map")
		}
	case a.What == api.Other && err == api.ErrConflict:
		p.serial, p.asked = 0, nil
		w.refused = append(w.refused, p.swapped)
		w.counts["other"]++
	default:
		w.t.Fatalf("%d: %d", a.What, err)
	}
	w.reads(p)
}

// reads: what it reads is what the map has at its floor.
func (w *town) reads(p *person) {
	if p.c.Alarmed() {
		w.t.Fatal("alarmed")
	}
	m, ok := w.maps[p.c.Floor()]
	if !ok || p.c.Floor().Header.Seq < p.read {
		w.t.Fatalf("floor %s", brief(p.c.Floor()))
	}
	for i := range names {
		want, there := m[key(i)]
		if v, found, err := p.c.Get(key(i)); err == api.OK && (v != want || found != there) || err != api.OK && err != api.ErrArg {
			w.t.Fatalf("at %d: %q, %t, %d; asked for %q, %t", i, v, found, err, want, there)
		} else if err == api.OK {
			p.read = p.c.Floor().Header.Seq
		}
		n := w.r.Intn(6)
		if l, err := p.c.Under(key(i), n); err == api.OK && !slices.Equal(l, m.under(key(i), n)) {
			w.t.Fatalf("under %d, %d bits: %s", i, n, brief(l))
		}
	}
	for _, k := range p.asked {
		if _, _, err := p.c.Get(k); p.serial == 0 && err != api.OK {
			w.t.Fatal("what was asked isn't told")
		}
	}
}

// P14.1: several clients, commands and answers lost, sent again, late, in any order; falls and openings.
func TestHonest(t *testing.T) {
	all := map[string]int{}
	for seed := range int64(24) {
		w := newTown(t, seed, 1+int(seed)%4)
		for range 1500 {
			switch p := w.folk[w.r.Intn(len(w.folk))]; w.r.Intn(3) {
			case 0:
				w.acts(p)
			case 1:
				w.delivers()
			case 2:
				w.gives()
			}
		}
		chain := w.s.Chain()
		for _, h := range w.refused {
			if slices.Contains(chain, h) {
				t.Fatal("what was refused is done")
			}
		}
		for i := 1; i < len(chain); i++ {
			if chain[i].Header.Prev != plainHash(chain[i-1].Header) || chain[i] != sealed("key", chain[i].Header) {
				t.Fatalf("%d doesn't follow", i)
			}
		}
		for what, n := range w.counts {
			all[what] += n
		}
	}
	for _, what := range []string{"opened", "down", "lost", "seen", "done", "other", "untold"} {
		if all[what] < 50 {
			t.Errorf("%s: %d times", what, all[what])
		}
	}
}

// played: rounds of a group, till nothing is on its way.
func played(g *group.Group) {
	for range 40 {
		for i := range 3 {
			g.Tick(i)
		}
		for g.Deliver(0) {
		}
	}
}

// P14.1: the shard is three nodes that agree on a log, any of which may crash: an answer of any of them is taken.
func TestGroup(t *testing.T) {
	first := header.First("key", 4)
	g, _ := group.New(3, func() group.Machine { return shard.New(4, first) })
	lost := &side{t: t, s: shard.New(4, first), d: disk.New()}
	x := &side{t: t, d: disk.New()}
	x.c = opened(t, x.d, "key", 4, 7)
	y := &side{t: t, d: disk.New(), s: lost.s}
	y.c = opened(t, y.d, "key", 4, 8)
	answers := func(cmd string) []string {
		for range 20 {
			for i := range 3 {
				if index, term := g.Propose(i, cmd); index > 0 {
					played(g)
					var out []string
					for _, o := range g.Outcomes() {
						if o.Index == index && o.Term == term {
							out = append(out, o.Out)
						}
					}
					return out
				}
			}
			played(g)
		}
		t.Fatal("nobody leads")
		return nil
	}
	goes := func(c *side, cmd string, want api.Errno) {
		t.Helper()
		l := answers(cmd)
		if len(l) == 0 {
			t.Fatal("nobody answers")
		}
		for i, a := range append(l, answers(cmd)...) {
			if i == 0 {
				c.hears("the first answer", a, want)
			} else {
				c.hears("another one", a, api.ErrArg)
			}
		}
	}
	m := pairs{}
	for round := range 8 {
		name := fmt.Sprint(round)
		goes(x, x.asks(keys(name)), api.OK)
		goes(y, y.asks(keys("y")), api.OK)
		goes(x, x.changes(puts(name, "v")), api.OK)
		goes(y, y.changes(puts("y", name)), api.ErrConflict)
		m = m.with(puts(name, "v"), nil)
		g.Compact(round % 3)
		g.Crash((round+1)%3, 0)
		if round%2 == 0 {
			x.reborn(0)
		}
		goes(x, x.asks(nil, api.Prefix{Key: fill(0)}), api.OK)
		if l, err := x.c.Under(fill(0), 0); !slices.Equal(l, m.under(fill(0), 0)) || err != api.OK {
			t.Fatalf("round %d: %s, %d", round, brief(l), err)
		}
	}
}
