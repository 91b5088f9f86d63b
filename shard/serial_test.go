package shard

import (
	"fmt"
	"math/rand"
	"strings"
	"testing"

	"vidimus/api"
)

// P13.1: the serial of the client's last command, one less, one more, 0 and the greatest.
func TestSerials(t *testing.T) {
	x := started(4)
	look := func(client, serial uint64) string { return Look(client, serial, 0, nil, nil) }
	x.is(t, "the first of all", look(1, 5), 5, api.Seen)
	x.is(t, "again", look(1, 5), 5, api.Seen)
	x.is(t, "one less", look(1, 4), 4, api.Old)
	x.is(t, "0", look(1, 0), 0, api.Old)
	x.is(t, "again", look(1, 5), 5, api.Seen)
	x.is(t, "one more", look(1, 6), 6, api.Seen)
	x.is(t, "the one ahead", look(1, 5), 5, api.Old)
	x.is(t, "many more", look(1, most-1), most-1, api.Seen)
	x.is(t, "the greatest", look(1, most), most, api.Seen)
	x.is(t, "one less than it", look(1, most-1), most-1, api.Old)
	x.is(t, "0 behind it", look(1, 0), 0, api.Old)
	x.is(t, "0 first", look(0, 0), 0, api.Seen)
	x.is(t, "0 again", look(0, 0), 0, api.Seen)
	x.is(t, "1 behind it", look(0, 1), 1, api.Seen)
	x.is(t, "0 behind 1", look(0, 0), 0, api.Old)
	x.is(t, "the greatest first", look(most, most), most, api.Seen)
	x.is(t, "less", look(most, 1), 1, api.Old)
	// What is old is not the client's last command.
	x.is(t, "the greatest again", look(most, most), most, api.Seen)
}

// P13.1: a command of the same serial with other bytes has that answer again, and nothing is done.
func TestSameSerial(t *testing.T) {
	for _, c := range []struct {
		what string
		cmd  func(x *sides) string
		is   int
	}{
		{"seen", func(*sides) string { return Look(9, 5, 1, keys("a"), nil) }, api.Seen},
		{"ahead", func(*sides) string { return Look(9, 5, 99, nil, nil) }, api.Ahead},
		{"done", func(x *sides) string { return x.swap(9, 5, puts("n", "1"), nil).bytes() }, api.Done},
		{"other", func(x *sides) string { return cmd{what: 1, client: 9, serial: 5, next: x.last()}.bytes() }, api.Other},
		{"bad", func(x *sides) string {
			return cmd{what: 1, client: 9, serial: 5, hash: plainHash(x.last().Header), next: x.last()}.bytes()
		}, api.Bad},
	} {
		x := played(t, 4)
		x.is(t, c.what, c.cmd(x), 5, c.is)
		want, state := x.s.Apply(c.cmd(x)), x.s.State()
		for _, other := range []string{
			Look(9, 5, 0, nil, nil), Look(9, 5, 99, nil, nil), x.swap(9, 5, puts("m", "2"), keys("a")).bytes(), x.swap(9, 5, nil, nil).bytes(),
			cmd{what: 1, client: 9, serial: 5, next: x.last()}.bytes(),
		} {
			if got := x.s.Apply(other); got != want || x.s.State() != state {
				t.Errorf("%s: %s; asked for %s", c.what, brief(got), brief(want))
			}
		}
		x.is(t, "what is no command", strings.TrimSuffix(Look(9, 5, 0, nil, nil), "l\x00"), 0, api.Bad)
		x.is(t, "less, with a swap", x.swap(9, 4, puts("m", "2"), nil).bytes(), 4, api.Old)
		x.is(t, "more, with a swap", x.swap(9, 6, puts("m", "2"), nil).bytes(), 6, api.Done)
	}
}

// P13.1: clients stand beside one another: what one does changes no other one's serial or answer.
func TestClients(t *testing.T) {
	x := started(4)
	clients := []uint64{0, 1, 2, 255, 256, 1 << 40, most - 1, most}
	for round := range uint64(5) {
		for i, c := range clients {
			x.swaps(t, c, 10*round, puts(fmt.Sprint(i), fmt.Sprint(round)), nil)
		}
		for _, c := range clients {
			x.is(t, "again", cmd{client: c, serial: 10 * round, seq: 99}.bytes(), 10*round, api.Done)
			if round > 0 {
				x.is(t, "less", cmd{client: c, serial: 10*round - 1}.bytes(), 10*round-1, api.Old)
			}
		}
		x.is(t, "one more of one", cmd{client: clients[round], serial: 10*round + 1}.bytes(), 10*round+1, api.Seen)
		for i, c := range clients {
			if uint64(i) != round {
				x.is(t, "of another", cmd{client: c, serial: 10 * round}.bytes(), 10*round, api.Done)
			}
		}
	}
}

// P13.1: any commands in any order, each by the chapter's words; sometimes what it told is taken up by another shard.
func TestAnyCommands(t *testing.T) {
	for seed := range int64(40) {
		r := rand.New(rand.NewSource(seed))
		x := started(uint64(seed))
		sent := []string{""}
		whats := map[int]int{}
		for step := range 300 {
			c := anyCommand(r, x)
			if r.Intn(4) == 0 {
				c = sent[r.Intn(len(sent))]
			}
			sent = append(sent, c)
			whats[x.hears(t, fmt.Sprintf("seed %d, step %d", seed, step), c).What]++
			if r.Intn(20) == 0 {
				other := played(t, uint64(seed))
				if !other.s.Restore(x.s.State()) {
					t.Fatalf("seed %d, step %d: no state", seed, step)
				}
				x.s = other.s
				x.tells(t, "restored")
			}
		}
		for what := range 6 {
			if whats[what] == 0 {
				t.Errorf("seed %d: nothing is answered by %d", seed, what)
			}
		}
	}
}

// anyCommand: of one of a few clients, with a serial near its last one; mostly a right one.
func anyCommand(r *rand.Rand, x *sides) string {
	client := uint64(r.Intn(4))
	serial := x.m.told[client].serial + uint64(r.Intn(5)) - 1
	if serial == most {
		serial = 0
	}
	if r.Intn(3) == 0 {
		c := cmd{client: client, serial: serial, seq: uint64(r.Intn(len(x.m.chain) + 2))}
		for range r.Intn(4) {
			c.keys = append(c.keys, key(r.Intn(12)))
			c.under = append(c.under, api.Prefix{Key: key(r.Intn(12)), Bits: r.Intn(260) - 2})
		}
		return c.bytes()
	}
	var p []api.Pair
	var d []string
	for range r.Intn(4) {
		p = append(p, api.Pair{Key: key(r.Intn(12)), Val: fmt.Sprint(r.Intn(3))})
		if r.Intn(2) == 0 {
			d = append(d, key(r.Intn(12)))
		}
	}
	c := x.swap(client, serial, p, d)
	switch r.Intn(12) {
	case 0:
		c.hash = fill(byte(r.Intn(3)))
	case 1:
		c.next.Header.Seq += uint64(r.Intn(3))
	case 2:
		c.deletes = nil
	case 3:
		c.puts = append(c.puts, api.Pair{Key: "short"})
	case 4:
		c.next = x.m.chain[r.Intn(len(x.m.chain))]
	case 5:
		s := c.bytes()
		return s[:r.Intn(len(s))]
	}
	return c.bytes()
}
