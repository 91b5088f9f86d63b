package vkv

import (
	"fmt"
	"testing"

	"vidimus/api"
	"vidimus/disk"
	"vidimus/header"
	"vidimus/shard"
)

// fallen: it is down: it does nothing any more, and has changed nothing.
func (x *side) fallen(what string, floor api.Signed, life uint64, pending string) {
	x.t.Helper()
	for range 2 {
		if !x.c.Down() || x.c.Alarmed() || x.c.Floor() != floor || x.c.Life() != life {
			x.t.Fatalf("%s: down %t, alarmed %t, floor %s, life %d", what, x.c.Down(), x.c.Alarmed(), brief(x.c.Floor()), x.c.Life())
		}
		if cmd, err := x.c.Look(nil, nil); cmd != "" || err != api.ErrDown {
			x.t.Fatalf("%s: Look %d", what, err)
		}
		if cmd, err := x.c.Look([]string{"short"}, nil); cmd != "" || err != api.ErrDown {
			x.t.Fatalf("%s: Look of no key %d", what, err)
		}
		if cmd, err := x.c.Swap(nil, nil, 0); cmd != "" || err != api.ErrDown {
			x.t.Fatalf("%s: Swap %d", what, err)
		}
		for _, s := range []string{"", "junk", word(life<<32+1, 1), word(life<<32+2, 1), word(life<<32+3, 5)} {
			if err := x.c.Heard(s); err != api.ErrDown {
				x.t.Fatalf("%s: Heard %d", what, err)
			}
		}
		if cmd, ok := x.c.Pending(); cmd != pending || ok != (pending != "") {
			x.t.Fatalf("%s: pending %s", what, brief(cmd))
		}
	}
}

// P14.3: the disk goes down when the floor is to move: it hasn't, nothing new is read, and behind a crash all goes on.
func TestFallAtHeard(t *testing.T) {
	for _, swaps := range []bool{false, true} {
		for _, keep := range []int{-1, 0, 1, 1000} {
			x := started(t)
			y := x.beside(8)
			y.looks(keys("a"))
			y.swaps(puts("a", "1"))
			x.looks(keys("a"))
			y.swaps(puts("a", "2"))
			floor, cmd := x.c.Floor(), ""
			if swaps {
				x.looks(keys("a"))
				floor = x.c.Floor()
				cmd = x.changes(puts("a", "3"))
			} else {
				cmd = x.asks(keys("a"))
			}
			answer := x.s.Apply(cmd)
			x.d.Fuel(0)
			x.hears("it goes down", answer, api.ErrDown)
			x.fallen("it goes down", floor, 1, cmd)
			if v, _, err := x.c.Get(key("a")); err == api.OK && v != map[bool]string{false: "1", true: "2"}[swaps] {
				t.Errorf("%q is read by a floor that isn't sure", v)
			}
			x.d.Crash(keep)
			// The client of ahead of the crash does nothing any more.
			x.fallen("behind the crash", floor, 1, cmd)
			x.at("behind the crash", floor)
			x.c = opened(t, x.d, "key", 4, 7)
			isNew(t, "opened", x.c, floor, 2)
			x.hears("late", answer, api.ErrArg)
			x.looks(keys("a"))
			x.at("a look", x.last())
			x.reads(pairs{key("a"): map[bool]string{false: "2", true: "3"}[swaps]}, "a")
			x.swaps(puts("a", "4"))
		}
	}
}

// What is answered without a new floor needs no disk that does steps: other, another serial, lies, a look that shows nothing new.
func TestHeardWithoutStep(t *testing.T) {
	x := started(t)
	x.looks(keys("a"))
	x.swaps(puts("a", "1"))
	serial := uint64(1<<32 + 3)
	floor := x.c.Floor()
	for what, want := range map[string]api.Errno{word(serial, 3): api.ErrConflict, word(serial, 5): api.ErrTamper, "junk": api.ErrTamper, word(serial+1, 1): api.ErrLost} {
		y := x.copied()
		y.changes(puts("a", "2"))
		y.d.Fuel(0)
		y.hears(what, what, want)
		if y.c.Down() || y.c.Floor() != floor {
			t.Error(what)
		}
	}
	x.d.Fuel(0)
	x.looks(keys("a"))
	x.reads(pairs{key("a"): "1"}, "a")
	x.at("nothing new", floor)
}

// The disk crashes as soon as the client went down by it: it stays down.
func TestCrashAtOnce(t *testing.T) {
	x := started(t)
	x.looks(keys("a"))
	cmd := x.changes(puts("a", "1"))
	answer := x.s.Apply(cmd)
	floor := x.c.Floor()
	x.d.Fuel(0)
	x.hears("it goes down", answer, api.ErrDown)
	x.d.Crash(0)
	x.hears("the same answer", answer, api.ErrDown)
	x.fallen("crashed at once", floor, 1, cmd)
	x.at("crashed at once", floor)
}

// Somebody else brings the disk down: the client is down, even if the disk comes up again, as long as it was seen to be.
func TestFallBeside(t *testing.T) {
	x := started(t)
	x.looks(keys("a"))
	x.swaps(puts("a", "1"))
	cmd := x.asks(keys("a"))
	x.d.Fuel(0)
	if x.c.Down() {
		t.Error("down ahead of a step")
	}
	x.d.Sync()
	x.fallen("down", x.last(), 1, cmd)
	x.d.Crash(0)
	x.fallen("seen to be down", x.last(), 1, cmd)
}

// An alarmed one that goes down is down first.
func TestFallAlarmed(t *testing.T) {
	x := started(t)
	x.asks(nil)
	x.hears("junk", "junk", api.ErrTamper)
	x.d.Fuel(0)
	x.d.Sync()
	if cmd, err := x.c.Look(nil, nil); cmd != "" || err != api.ErrDown || x.c.Heard("") != api.ErrDown || !x.c.Alarmed() {
		t.Error(cmd, err)
	}
	if cmd, err := x.c.Swap(nil, nil, 0); cmd != "" || err != api.ErrDown {
		t.Error(cmd, err)
	}
}

// life: what one client does, on a disk that does so many steps, as far as it comes: how many lives began, the last floor of which anything was read, and the one that it would have had then.
type life struct {
	lives       uint64
	read, after api.Signed
}

// does: openings, looks and swaps of two clients; the second one's disk goes down.
func (l *life) does(t *testing.T, s *shard.Shard, d *disk.Disk, other *side) {
	t.Helper()
	for round := range 4 {
		c, err := Open(d, "key", 4, 7)
		if err != api.OK {
			if c != nil || err != api.ErrDown {
				t.Fatalf("Open: %d", err)
			}
			return
		}
		l.lives++
		if c.Life() != l.lives {
			t.Fatalf("life %d; asked for %d", c.Life(), l.lives)
		}
		x := &side{t: t, s: s, d: d, c: c}
		for i := range 3 {
			other.looks(keys("a", "b"))
			other.swaps(puts("a", fmt.Sprint(round, i)))
			if !l.goes(x, x.asks(keys("a", "b"))) || !l.goes(x, x.changes(puts("b", fmt.Sprint(round, i)))) {
				return
			}
		}
	}
}

// goes: the command is answered: whether the client is up behind that.
func (l *life) goes(x *side, cmd string) bool {
	x.t.Helper()
	answer := x.s.Apply(cmd)
	l.after = x.last()
	switch err := x.c.Heard(answer); err {
	case api.ErrDown:
		x.fallen("fallen", l.read, l.lives, cmd)
		return false
	case api.OK:
		x.reads(x.truth(), "a", "b")
		l.read = x.c.Floor()
		if l.read != l.after {
			x.t.Fatal("an elder floor")
		}
	default:
		x.t.Fatalf("%d", err)
	}
	return true
}

// truth: the shard's pairs.
func (x *side) truth() pairs {
	m := pairs{}
	for _, p := range x.s.Map().All() {
		m[p.Key] = p.Val
	}
	return m
}

// P14.3: falls at each step, also of the openings behind that, with any of what waits kept.
func TestFalls(t *testing.T) {
	for steps := 0; ; steps++ {
		for again := range 3 {
			s := shard.New(4, header.First("key", 4))
			other := &side{t: t, s: s, d: disk.New()}
			other.c = opened(t, other.d, "key", 4, 8)
			d := disk.New()
			l := &life{read: header.First("key", 4)}
			l.after = l.read
			d.Fuel(steps)
			l.does(t, s, d, other)
			if !d.Down() {
				if steps != 4*7 {
					t.Errorf("%d steps", steps)
				}
				return
			}
			d.Crash(again * 20)
			for range again {
				d.Fuel(0)
				if c, err := Open(d, "key", 4, 7); c != nil || err != api.ErrDown {
					t.Fatalf("Open: %d", err)
				}
				d.Crash(-1)
			}
			x := &side{t: t, s: s, d: d, c: opened(t, d, "key", 4, 7)}
			if f := x.c.Floor(); f != l.read && f != l.after || f.Header.Seq < l.read.Header.Seq || x.c.Life() != l.lives+1 {
				t.Fatalf("%d steps: floor %s, life %d; read was %s, in life %d", steps, brief(f), x.c.Life(), brief(l.read), l.lives)
			}
			x.looks(keys("a", "b"))
			x.reads(x.truth(), "a", "b")
			x.swaps(puts("a", "end"), key("b"))
		}
	}
}
