package vkv

import (
	"fmt"
	"math"
	"slices"
	"strings"
	"testing"

	"vidimus/api"
	"vidimus/header"
)

// A look's bytes: who, the serial of this life, the floor's Seq, what is asked.
func TestLookBytes(t *testing.T) {
	x := started(t)
	count := uint64(0)
	for life := uint64(1); life < 4; life++ {
		for i, k := range [][]string{nil, {}, keys("a"), keys("a", "b", "a"), {fill(0), fill(255)}} {
			for _, under := range [][]api.Prefix{nil, {{Key: key("a"), Bits: 0}}, {{Key: key("b"), Bits: 256}, {Key: fill(0), Bits: 1}, {Key: fill(255), Bits: 255}}} {
				count++
				seq := x.last().Header.Seq
				want := lookBytes(7, life<<32+count, seq, k, under)
				cmd := x.asks(k, under...)
				if cmd != want {
					t.Fatalf("%s; asked for %s", brief(cmd), brief(want))
				}
				x.waits("a look", cmd)
				x.hears("a look", x.s.Apply(cmd), api.OK)
				x.idle("a look that was heard")
			}
			count++
			x.swaps(puts(fmt.Sprint(i), "v"+fmt.Sprint(life)), key("none"))
		}
		x.reborn(0)
		count = 0
	}
}

// A swap's bytes: the next header, of the root that the puts and the deletes lead to.
func TestSwapBytes(t *testing.T) {
	for _, who := range []uint64{0, 7, 258, most} {
		x := started(t).beside(who)
		m := pairs{}
		names := keys("a", "b", "c", "d")
		x.looks(names)
		for i, e := range []struct {
			puts    []api.Pair
			deletes []string
		}{
			{},
			{puts("a", "1", "b", "2"), nil},
			{puts("a", "2", "c", "", "a", "3"), keys("b")},
			{puts("d", "4"), keys("d", "b")},
			{nil, keys("a", "c", "a")},
			{puts("b", strings.Repeat("v", 1000)), nil},
			{nil, nil},
		} {
			stamp := uint64(i) * 0x123456789abcdef
			floor := x.c.Floor().Header
			next := sealed("key", api.Header{Shard: 4, Seq: floor.Seq + 1, Prev: plainHash(floor), Root: m.with(e.puts, e.deletes).root(), Who: who, Stamp: stamp})
			want := swapBytes(who, 1<<32+uint64(i)+2, next, e.puts, e.deletes)
			cmd, err := x.c.Swap(e.puts, e.deletes, stamp)
			if cmd != want || err != api.OK {
				t.Fatalf("%d: %s, %d; asked for %s", i, brief(cmd), err, brief(want))
			}
			x.waits("a swap", cmd)
			x.hears("a swap", x.s.Apply(cmd), api.OK)
			x.idle("a swap that was heard")
			m = m.with(e.puts, e.deletes)
			x.at("behind a swap", next)
			x.reads(m, "a", "b", "c", "d")
		}
	}
}

// refuses: a call that is refused has made nothing: what is pending, the floor and the next serial are as they were.
func (x *side) refuses(what string, want api.Errno, call func() (string, api.Errno)) {
	x.t.Helper()
	before, was := x.c.Pending()
	floor := x.c.Floor()
	if cmd, err := call(); cmd != "" || err != want {
		x.t.Errorf("%s: %s, %d", what, brief(cmd), err)
	}
	if cmd, is := x.c.Pending(); cmd != before || is != was || x.c.Floor() != floor || x.c.Alarmed() || x.c.Down() {
		x.t.Errorf("%s: something has changed", what)
	}
}

// wrongKeys: keys that aren't such.
func wrongKeys() []string {
	return []string{"", "x", fill(0)[:31], fill(0) + "\x00", fill(0) + fill(0), strings.Repeat("k", 1000)}
}

func TestLookRefused(t *testing.T) {
	x := started(t)
	serial := uint64(1 << 32)
	for _, seen := range []bool{false, true} {
		for _, k := range wrongKeys() {
			for _, l := range [][]string{{k}, {key("a"), k}, {k, key("a")}, {key("a"), k, key("b")}} {
				x.refuses("a key", api.ErrArg, func() (string, api.Errno) { return x.c.Look(l, nil) })
				x.refuses("a key, and prefixes", api.ErrArg, func() (string, api.Errno) { return x.c.Look(l, []api.Prefix{{Key: key("a"), Bits: 3}}) })
			}
			for _, n := range []int{0, 1, 8 * len(k), 256} {
				x.refuses("a prefix's key", api.ErrArg, func() (string, api.Errno) { return x.c.Look(nil, []api.Prefix{{Key: k, Bits: n}}) })
			}
		}
		for _, n := range []int{-1, 257, -256, 258, math.MaxInt, math.MinInt, 1 << 32, -1 << 32, 1<<32 + 5} {
			wrong := api.Prefix{Key: key("a"), Bits: n}
			right := api.Prefix{Key: key("a"), Bits: 5}
			for _, l := range [][]api.Prefix{{wrong}, {right, wrong}, {wrong, right}, {right, wrong, right}} {
				x.refuses(fmt.Sprint(n, " bits"), api.ErrArg, func() (string, api.Errno) { return x.c.Look(keys("a"), l) })
			}
		}
		serial++
		cmd := x.asks(keys("a"), api.Prefix{Key: key("a"), Bits: 256}, api.Prefix{Key: fill(0)})
		if want := lookBytes(7, serial, 0, keys("a"), []api.Prefix{{Key: key("a"), Bits: 256}, {Key: fill(0)}}); cmd != want {
			t.Fatalf("%s; asked for %s", brief(cmd), brief(want))
		}
		// Something is pending.
		x.refuses("another look", api.ErrArg, func() (string, api.Errno) { return x.c.Look(nil, nil) })
		x.refuses("the same look", api.ErrArg, func() (string, api.Errno) { return x.c.Look(keys("a"), nil) })
		x.refuses("a swap", api.ErrArg, func() (string, api.Errno) { return x.c.Swap(puts("a", "1"), nil, 1) })
		if seen {
			x.reads(nil, "a")
		} else {
			x.blind("a")
		}
		x.hears("the first look", x.s.Apply(cmd), api.OK)
	}
}

func TestSwapRefused(t *testing.T) {
	x := started(t)
	x.swapsNothing("without a view")
	x.looks(keys("a", "b"))
	x.swaps(puts("a", "1", "b", "2"))
	for i := range 10 {
		x.looks(nil, api.Prefix{Key: fill(0)})
		x.swaps(puts(fmt.Sprint(i), "v"))
	}
	x.looks(keys("a"))
	serial := uint64(1<<32 + 24)
	for _, k := range wrongKeys() {
		p := api.Pair{Key: k, Val: "v"}
		for _, l := range [][]api.Pair{{p}, {p, puts("a", "1")[0]}, {puts("a", "1")[0], p}} {
			x.refuses("a put's key", api.ErrArg, func() (string, api.Errno) { return x.c.Swap(l, nil, 1) })
			x.refuses("a put's key", api.ErrArg, func() (string, api.Errno) { return x.c.Swap(l, keys("a"), 1) })
		}
		for _, l := range [][]string{{k}, {k, key("a")}, {key("a"), k}} {
			x.refuses("a delete's key", api.ErrArg, func() (string, api.Errno) { return x.c.Swap(nil, l, 1) })
			x.refuses("a delete's key", api.ErrArg, func() (string, api.Errno) { return x.c.Swap(puts("a", "1"), l, 1) })
		}
	}
	// What the view doesn't tell.
	dark := 0
	for i := range 10 {
		name := fmt.Sprint(i)
		if _, _, err := x.c.Get(key(name)); err == api.OK {
			continue
		}
		dark++
		x.refuses("a put", api.ErrArg, func() (string, api.Errno) { return x.c.Swap(puts(name, "1"), nil, 1) })
		x.refuses("a put behind another one", api.ErrArg, func() (string, api.Errno) { return x.c.Swap(puts("a", "1", name, "1"), nil, 1) })
		x.refuses("a put ahead of another one", api.ErrArg, func() (string, api.Errno) { return x.c.Swap(puts(name, "1", "a", "1"), nil, 1) })
		x.refuses("a put that is deleted", api.ErrArg, func() (string, api.Errno) { return x.c.Swap(puts(name, "1"), keys(name), 1) })
		x.refuses("a delete", api.ErrArg, func() (string, api.Errno) { return x.c.Swap(nil, keys(name), 1) })
		x.refuses("a delete behind another one", api.ErrArg, func() (string, api.Errno) { return x.c.Swap(nil, keys("a", name), 1) })
		x.refuses("a delete ahead of another one", api.ErrArg, func() (string, api.Errno) { return x.c.Swap(nil, keys(name, "a"), 1) })
		x.refuses("a delete behind a put", api.ErrArg, func() (string, api.Errno) { return x.c.Swap(puts("a", "5"), keys(name), 1) })
	}
	if dark < 5 {
		t.Fatalf("%d of 10 aren't told", dark)
	}
	cmd := x.changes(puts("a", "2"))
	if !strings.HasPrefix(cmd, "l\x07"+num(1)+num(7)+num(serial)) {
		t.Errorf("the serial isn't %d: %s", serial, brief(cmd))
	}
	x.refuses("another swap", api.ErrArg, func() (string, api.Errno) { return x.c.Swap(puts("a", "3"), nil, 1) })
	x.refuses("a look", api.ErrArg, func() (string, api.Errno) { return x.c.Look(keys("a"), nil) })
	x.reads(pairs{key("a"): "1"}, "a")
	x.hears("the first swap", x.s.Apply(cmd), api.OK)
	x.reads(pairs{key("a"): "2"}, "a")
}

// swapsNothing: there is no view: no swap is made.
func (x *side) swapsNothing(what string) {
	x.t.Helper()
	for _, p := range [][]api.Pair{nil, {}, puts("a", "1")} {
		for _, d := range [][]string{nil, {}, keys("a"), {"short"}} {
			x.refuses(what, api.ErrArg, func() (string, api.Errno) { return x.c.Swap(p, d, 1) })
		}
	}
}

// A command that would have more than 2^24 bytes is none.
func TestTooLong(t *testing.T) {
	x := started(t)
	many := slices.Repeat(keys("a"), (1<<24-40)/34)
	for len(lookBytes(7, 1<<32+1, 0, many, nil)) > 1<<24 {
		many = many[1:]
	}
	more := append(slices.Clone(many), key("a"))
	x.refuses("too many keys", api.ErrArg, func() (string, api.Errno) { return x.c.Look(more, nil) })
	x.refuses("many more keys", api.ErrArg, func() (string, api.Errno) { return x.c.Look(slices.Repeat(more, 3), nil) })
	prefixes := slices.Repeat([]api.Prefix{{Key: key("a"), Bits: 3}}, len(more))
	x.refuses("too many prefixes", api.ErrArg, func() (string, api.Errno) { return x.c.Look(nil, prefixes) })
	if got := x.asks(many); got != lookBytes(7, 1<<32+1, 0, many, nil) {
		t.Error("the longest look")
	}
	x.hears("the longest look", x.s.Apply(lookBytes(7, 1<<32+1, 0, many, nil)), api.OK)

	room := 1<<24 - len(x.swapWith("a", "")) - 3
	x.refuses("a value that is too long", api.ErrArg, func() (string, api.Errno) {
		return x.c.Swap(puts("a", strings.Repeat("v", room+1)), nil, 9)
	})
	x.refuses("too many deletes", api.ErrArg, func() (string, api.Errno) { return x.c.Swap(nil, more, 9) })
	val := strings.Repeat("v", room)
	cmd := x.changes(puts("a", val))
	if len(cmd) != 1<<24 || cmd != x.swapWith("a", val) {
		t.Errorf("the longest swap has %d bytes", len(cmd))
	}
	x.hears("the longest swap", x.s.Apply(cmd), api.OK)
	x.reads(pairs{key("a"): val}, "a")
}

// swapWith: the second command of the first life, of one put.
func (x *side) swapWith(name, val string) string {
	floor := x.c.Floor().Header
	next := sealed("key", api.Header{Shard: 4, Seq: floor.Seq + 1, Prev: plainHash(floor), Root: pairs{key(name): val}.root(), Who: 7, Stamp: 9})
	return swapBytes(7, 1<<32+2, next, puts(name, val), nil)
}

// A floor of the greatest number has no next one.
func TestSwapBehindAll(t *testing.T) {
	x := started(t)
	floor := sealed("key", api.Header{Shard: 4, Seq: most, Prev: fill(1), Root: fill(0)})
	x.d.Swap(rows(num(1), plainSigned(floor)))
	x.c = opened(t, x.d, "key", 4, 7)
	x.asks(nil)
	x.hears("a look", story(2<<32+1, nil, "l\x00"), api.OK)
	x.refuses("a swap", api.ErrArg, func() (string, api.Errno) { return x.c.Swap(nil, nil, 1) })
	x.at("the last floor", floor)
	// One ahead of it has.
	floor = sealed("key", api.Header{Shard: 4, Seq: most - 1, Prev: fill(1), Root: fill(0)})
	x.d.Swap(rows(num(1), plainSigned(floor)))
	x.c = opened(t, x.d, "key", 4, 7)
	x.asks(nil)
	x.hears("a look", story(2<<32+1, nil, "l\x00"), api.OK)
	x.changes(nil)
	x.hears("a swap", word(2<<32+2, 1), api.OK)
	if x.c.Floor().Header.Seq != most {
		t.Error(x.c.Floor().Header.Seq)
	}
}

// R4: what is handed in isn't kept and isn't changed; what is answered is the caller's own.
func TestMemory(t *testing.T) {
	x := started(t)
	k, u := keys("a", "b"), []api.Prefix{{Key: key("a"), Bits: 3}}
	p, d := puts("a", "1", "b", "2", "c", "3"), keys("b", "none")
	x.looks(keys("a", "b", "c", "none"))
	cmd := x.changes(p, d...)
	if !slices.EqualFunc(p, puts("a", "1", "b", "2", "c", "3"), func(a, b api.Pair) bool { return a == b }) || !slices.Equal(d, keys("b", "none")) {
		t.Error("puts or deletes have changed")
	}
	for i := range p {
		p[i] = api.Pair{Key: key("z"), Val: "z"}
	}
	clear(d)
	x.waits("a swap", cmd)
	x.hears("a swap", x.s.Apply(cmd), api.OK)
	x.reads(pairs{key("a"): "1", key("c"): "3"}, "a", "b", "c", "none")

	big, of := spread(t, 50)
	cmd = big.asks(k, u...)
	k[0], k[1], u[0] = key("3"), key("4"), api.Prefix{Key: key("5")}
	big.waits("a look", cmd)
	big.hears("a look", big.s.Apply(cmd), api.OK)
	big.reads(of, "a", "b")
	if _, _, err := big.c.Get(key("3")); err == api.OK {
		t.Error("what wasn't asked is told, so that nothing shows of it")
	}

	x.looks(nil, api.Prefix{Key: fill(0)})
	m := pairs{key("a"): "1", key("c"): "3"}
	for range 2 {
		l, err := x.c.Under(fill(0), 0)
		if !slices.Equal(l, m.under(fill(0), 0)) || err != api.OK {
			t.Fatal(brief(l), err)
		}
		for i := range l {
			l[i] = api.Pair{Key: "x", Val: "y"}
		}
		l = append(l[:0], api.Pair{}, api.Pair{})
	}
	f := x.c.Floor()
	f.Header.Seq, f.Mac = 99, ""
	x.at("a floor that was changed outside", x.last())
	if x.last() == header.First("key", 4) {
		t.Error("nothing was swapped")
	}
}
