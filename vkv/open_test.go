package vkv

import (
	"fmt"
	"strings"
	"testing"

	"vidimus/api"
	"vidimus/disk"
	"vidimus/header"
	"vidimus/log"
	"vidimus/shard"
)

// isNew: as it is behind Open: in that life, nothing pending, no view.
func isNew(t *testing.T, what string, c *Client, floor api.Signed, life uint64) {
	t.Helper()
	if c.Floor() != floor || c.Life() != life {
		t.Errorf("%s: floor %s, life %d; asked for %s, %d", what, brief(c.Floor()), c.Life(), brief(floor), life)
	}
	if cmd, ok := c.Pending(); cmd != "" || ok || c.Alarmed() || c.Down() {
		t.Errorf("%s: pending %s, %t, alarmed %t, down %t", what, brief(cmd), ok, c.Alarmed(), c.Down())
	}
	for _, k := range []string{key("a"), fill(0), "", fill(0)[:31], fill(0) + "\x00"} {
		if v, found, err := c.Get(k); v != "" || found || err != api.ErrArg {
			t.Errorf("%s: Get of %d bytes: %q, %t, %d", what, len(k), v, found, err)
		}
		for _, n := range []int{-1, 0, 256, 257} {
			if l, err := c.Under(k, n); l != nil || err != api.ErrArg {
				t.Errorf("%s: Under of %d bytes, %d bits: %v, %d", what, len(k), n, l, err)
			}
		}
	}
	if cmd, err := c.Swap(nil, nil, 0); cmd != "" || err != api.ErrArg {
		t.Errorf("%s: Swap without a view: %s, %d", what, brief(cmd), err)
	}
	for _, s := range []string{"", "junk", word(life<<32+1, 1)} {
		if err := c.Heard(s); err != api.ErrArg {
			t.Errorf("%s: Heard of %s: %d", what, brief(s), err)
		}
	}
	if c.Alarmed() {
		t.Errorf("%s: alarmed by what nobody asked for", what)
	}
}

// The chapter's example.
func TestExample(t *testing.T) {
	x := started(t)
	seq := x.c.Floor().Header.Seq
	x.looks(keys("a"))
	x.swaps(puts("a", "1"))
	if got := x.c.Floor().Header.Seq; got != seq+1 {
		t.Errorf("Seq %d", got)
	}
}

// P14.3: on an empty disk the floor is the shard's first header, and each opening is one life more.
func TestOpenEmpty(t *testing.T) {
	for _, name := range []string{"", "key", strings.Repeat("k", 100), "\x00\xff"} {
		for _, number := range []uint64{0, 1, 4, 258, most} {
			first := sealed(name, api.Header{Shard: number, Prev: fill(0), Root: fill(0)})
			d := disk.New()
			for life := range uint64(5) {
				c := opened(t, d, name, number, life)
				isNew(t, fmt.Sprint(number), c, first, life+1)
				if life%2 == 0 {
					d.Crash(int(life) - 2)
				}
			}
		}
	}
}

// P14.3: a disk that a client left is opened by its floor, whoever is asked for, whether it crashed or not.
func TestOpenLeft(t *testing.T) {
	x := started(t)
	for life := uint64(1); life < 20; life++ {
		x.looks(keys("a"))
		if life%3 > 0 {
			x.swaps(puts("a", fmt.Sprint(life)))
		}
		floor := x.last()
		x.at("left", floor)
		if life%2 == 0 {
			x.asks(keys("b"))
		}
		if life%4 > 0 {
			x.d.Crash(int(life) - 5)
		}
		who := life * 3 % 7
		x.c = opened(t, x.d, "key", 4, who)
		isNew(t, "left", x.c, floor, life+1)
	}
}

// P14.3: two clients on two disks are in lives of their own.
func TestOpenTwo(t *testing.T) {
	x := started(t)
	y := x.beside(8)
	y.reborn(0)
	y.reborn(0)
	if x.c.Life() != 1 || y.c.Life() != 3 {
		t.Error(x.c.Life(), y.c.Life())
	}
	x.looks(keys("a"))
	x.swaps(puts("a", "1"))
	y.at("the other one", header.First("key", 4))
}

// A disk that is down, or that goes down by being opened: it is as it was behind a crash.
func TestOpenDown(t *testing.T) {
	none := func(what string, d *disk.Disk) {
		t.Helper()
		if c, err := Open(d, "key", 4, 7); c != nil || err != api.ErrDown {
			t.Errorf("%s: %v, %d", what, c, err)
		}
	}
	none("nil", nil)
	d := disk.New()
	for life := uint64(1); life < 6; life++ {
		d.Fuel(0)
		none("it goes down", d)
		if !d.Down() {
			t.Error("nothing was sure of a life, but it is up")
		}
		none("it is down", d)
		d.Crash(0)
		isNew(t, "behind that", opened(t, d, "key", 4, 7), header.First("key", 4), life)
	}
	// What stands there isn't looked at, if it is down.
	d.Swap("junk")
	d.Fuel(0)
	d.Sync()
	none("junk, down", d)
	d.Crash(0)
	if c, err := Open(d, "key", 4, 7); c != nil || err != api.ErrLost {
		t.Errorf("junk: %v, %d", c, err)
	}
}

// isLost: something else stands there; it is left as it is, without a step.
func isLost(t *testing.T, what, s string) {
	t.Helper()
	for _, waits := range []bool{false, true} {
		d := disk.New()
		if waits {
			d.Append(s)
		} else {
			d.Swap(s)
		}
		before := d.Waits()
		d.Fuel(0)
		if c, err := Open(d, "key", 4, 7); c != nil || err != api.ErrLost {
			t.Errorf("%s: %v, %d", what, c, err)
		}
		if got, err := d.Read(); got != s || err != api.OK || d.Waits() != before {
			t.Errorf("%s: the disk has changed", what)
		}
	}
}

// left: what a client of that key and shard leaves on a disk.
func left(t *testing.T, key string, number uint64) string {
	t.Helper()
	d := disk.New()
	opened(t, d, key, number, 7)
	s, _ := d.Read()
	return s
}

func TestOpenLost(t *testing.T) {
	x := started(t)
	x.looks(keys("a"))
	x.swaps(puts("a", "1"))
	mine, _ := x.d.Read()
	d := disk.New()
	l, _ := log.Open(d)
	l.SetTerm(3, 1)
	of, _ := d.Read()
	deep := strings.Repeat("l\x01", 19) + num(0)
	for _, s := range []string{
		"x", "junk", "\x00", "n\x00", "s\x00", "l\x00", rows(num(1)), rows(num(1), num(2)), rows(num(1), text("a")), rows(num(1), rows()), rows(text(""), rows()), deep,
		of, x.s.State(), header.Text(x.s.Chain()), plainSigned(x.last()), word(1, 1), story(1, x.s.Chain(), ""), strings.Repeat("\x00", 1000),
		strings.Repeat("\xff", 1000), mine + "\x00", mine + mine, "\x00" + mine, mine + "n\x00", mine + of,
		left(t, "kez", 4), left(t, "", 4), left(t, "key", 5), left(t, "key", 0), left(t, "key", most), left(t, "kez", 5),
	} {
		isLost(t, brief(s), s)
	}
	// A client's bytes, with another header in them that has as many bytes.
	h := x.last()
	for what, other := range map[string]api.Signed{
		"by another key":        sealed("kez", h.Header),
		"another shard's":       sealed("key", api.Header{Shard: 5, Seq: 1, Prev: h.Header.Prev, Root: h.Header.Root, Who: 7, Stamp: 9}),
		"another stamp":         {Header: api.Header{Shard: 4, Seq: 1, Prev: h.Header.Prev, Root: h.Header.Root, Who: 7, Stamp: 10}, Mac: h.Mac},
		"another root":          {Header: api.Header{Shard: 4, Seq: 1, Prev: h.Header.Prev, Root: key("x"), Who: 7, Stamp: 9}, Mac: h.Mac},
		"another seal":          {Header: h.Header, Mac: fill(3)},
		"the first one's seal":  {Header: h.Header, Mac: x.s.Chain()[0].Mac},
		"another shard and key": sealed("kez", api.Header{Shard: 5, Seq: 1, Prev: h.Header.Prev, Root: h.Header.Root, Who: 7, Stamp: 9}),
	} {
		s := strings.Replace(mine, plainSigned(h), plainSigned(other), 1)
		if s == mine || len(s) != len(mine) {
			t.Fatalf("%s: not in there", what)
		}
		isLost(t, what, s)
	}
	// Another signed one of that shard is a floor.
	other := sealed("key", api.Header{Shard: 4, Seq: 1, Prev: h.Header.Prev, Root: key("x"), Who: 7, Stamp: 9})
	d = disk.New()
	d.Swap(strings.Replace(mine, plainSigned(h), plainSigned(other), 1))
	isNew(t, "another floor", opened(t, d, "key", 4, 7), other, 2)
}

// Bytes that a client left, cut at each place and with a byte turned, are nothing, or tell its floor still.
func TestOpenTurned(t *testing.T) {
	x := started(t)
	x.looks(keys("a"))
	x.swaps(puts("a", "1"))
	mine, _ := x.d.Read()
	lost := 0
	for i, s := range turns(mine) {
		d := disk.New()
		d.Swap(s)
		c, err := Open(d, "key", 4, 7)
		switch {
		case s == "" || err == api.OK && c.Floor() == x.last():
		case c == nil && err == api.ErrLost:
			lost++
		default:
			t.Errorf("turn %d: %d", i, err)
		}
	}
	if len(turns(mine))-lost > 20 {
		t.Errorf("%d of %d were lost", lost, len(turns(mine)))
	}
}

// Lives are numbers of which serials can be made: a disk with others is no client's.
func TestOpenLives(t *testing.T) {
	h := header.First("key", 4)
	for _, life := range []uint64{0, 1<<32 - 1, 1 << 32, 1<<32 + 1, 1 << 40, most - 1, most} {
		isLost(t, fmt.Sprint("life ", life), rows(num(life), plainSigned(h)))
	}
	for _, life := range []uint64{1, 2, 255, 256, 1 << 31, 1<<32 - 2} {
		d := disk.New()
		d.Swap(rows(num(life), plainSigned(h)))
		x := &side{t: t, s: shard.New(4, h), d: d, c: opened(t, d, "key", 4, 7)}
		isNew(t, fmt.Sprint("life ", life), x.c, h, life+1)
		if got, want := x.asks(nil), lookBytes(7, (life+1)<<32+1, 0, nil, nil); got != want {
			t.Errorf("life %d: %s", life, brief(got))
		}
	}
}

// What is open of a disk with waiting bytes is what can be read there; behind that it is sure.
func TestOpenWaiting(t *testing.T) {
	s := left(t, "key", 4)
	d := disk.New()
	d.Append(s)
	c := opened(t, d, "key", 4, 7)
	isNew(t, "waiting", c, header.First("key", 4), 2)
	d.Crash(0)
	isNew(t, "behind a crash", opened(t, d, "key", 4, 7), header.First("key", 4), 3)
}

func TestNil(t *testing.T) {
	for what, c := range map[string]*Client{"nil": nil, "one that nobody opened": {}} {
		if cmd, err := c.Look(keys("a"), nil); cmd != "" || err != api.ErrDown {
			t.Error(what, cmd, err)
		}
		if cmd, err := c.Look([]string{""}, []api.Prefix{{Bits: -1}}); cmd != "" || err != api.ErrDown {
			t.Error(what, cmd, err)
		}
		if cmd, err := c.Swap(puts("a", "b"), keys("a"), 1); cmd != "" || err != api.ErrDown {
			t.Error(what, cmd, err)
		}
		if cmd, ok := c.Pending(); cmd != "" || ok {
			t.Error(what, cmd, ok)
		}
		for _, s := range []string{"", "junk", word(0, 1), word(1, 0)} {
			if err := c.Heard(s); err != api.ErrDown {
				t.Error(what, err)
			}
		}
		if c.Floor() != (api.Signed{}) || c.Life() != 0 || c.Alarmed() || !c.Down() {
			t.Error(what, c.Floor(), c.Life(), c.Alarmed(), c.Down())
		}
	}
	var c *Client
	if v, found, err := c.Get(key("a")); v != "" || found || err != api.ErrDown {
		t.Error(v, found, err)
	}
	for _, n := range []int{-1, 0, 256, 257} {
		if l, err := c.Under(key("a"), n); l != nil || err != api.ErrDown {
			t.Error(l, err)
		}
	}
}
