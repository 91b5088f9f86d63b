package vkv

import (
	"fmt"
	"math/rand"
	"slices"
	"strings"
	"testing"

	"vidimus/api"
	"vidimus/header"
	"vidimus/part"
	"vidimus/shard"
)

// P14.1: swaps, one behind the other, on what a look or the swap ahead told.
func TestSwaps(t *testing.T) {
	x := started(t)
	m := pairs{}
	names := []string{"a", "b", "c", "d"}
	x.looks(keys(names...))
	for i, e := range []struct {
		puts    []api.Pair
		deletes []string
	}{
		{puts("a", "1"), nil},
		{puts("a", "2"), nil},
		{puts("a", "2", "b", "", "c", "3"), nil},
		{nil, nil},
		{nil, keys("b")},
		{nil, keys("b", "d")},
		{puts("d", "4", "d", "5"), keys("a", "a")},
		{puts("b", "6"), keys("b")},
		{puts("a", "7", "b", "8"), keys("a", "c", "d")},
		{nil, keys("b")},
		{nil, keys("a", "b", "c", "d")},
		{puts("a", strings.Repeat("v", 100000)), nil},
	} {
		x.swaps(e.puts, e.deletes...)
		m = m.with(e.puts, e.deletes)
		x.at("swapped", x.last())
		x.reads(m, names...)
		if got := x.c.Floor().Header; got.Seq != uint64(i+1) || got.Root != m.root() || got.Who != 7 || got.Stamp != 9 || got.Root != x.s.Map().Root() {
			t.Fatalf("%d: floor %s", i, brief(got))
		}
	}
}

// what is pending, a swap.
func swapping(t *testing.T) (*side, string, api.Signed) {
	t.Helper()
	x := started(t)
	x.looks(keys("a", "b"))
	x.swaps(puts("a", "1"))
	cmd := x.changes(puts("a", "2", "b", "3"))
	next := sealed("key", api.Header{
		Shard: 4, Seq: 2, Prev: plainHash(x.c.Floor().Header), Root: pairs{key("a"): "2", key("b"): "3"}.root(), Who: 7, Stamp: 9,
	})
	return x, cmd, next
}

// Done and Other of a swap; all else alarms.
func TestSwapHeard(t *testing.T) {
	x, cmd, next := swapping(t)
	serial := uint64(1<<32 + 3)
	floor := x.c.Floor()
	elder := pairs{key("a"): "1"}
	x.waits("a swap", cmd)
	x.at("a swap", floor)
	x.reads(elder, "a", "b")

	y := x.copied()
	y.hears("done", word(serial, api.Done), api.OK)
	y.idle("done")
	y.at("done", next)
	y.reads(pairs{key("a"): "2", key("b"): "3"}, "a", "b")
	y.hears("done, twice", word(serial, api.Done), api.ErrArg)
	y.changes(nil)

	y = x.copied()
	y.hears("other", word(serial, api.Other), api.ErrConflict)
	y.idle("other")
	y.at("other", floor)
	y.blind("a", "b")
	y.swapsNothing("behind other")
	y.hears("other, twice", word(serial, api.Other), api.ErrArg)
	if y.c.Alarmed() || y.c.Down() {
		t.Error("alarmed or down by other")
	}

	all := shows(t, pairs{key("a"): "2", key("b"): "3"}, keys("a", "b"))
	for _, a := range []string{
		word(serial, api.Ahead), word(serial, api.Old), word(serial, api.Bad), word(serial, 0), word(serial, 6), story(serial, nil, ""), story(serial, []api.Signed{next}, all),
		story(serial, nil, shows(t, elder, keys("a", "b"))), "", "junk", word(serial, 1) + "\x00", word(serial, 1)[1:], rows(num(serial), num(1), num(1)), cmd, plainSigned(next),
	} {
		y := x.copied()
		y.hears(brief(a), a, api.ErrTamper)
		y.alarms(brief(a), floor)
	}
	for _, right := range []string{word(serial, api.Done), word(serial, api.Other)} {
		for i, a := range turns(right) {
			y := x.copied()
			got, ok := shard.Answer(a)
			want := api.ErrTamper
			switch {
			case ok && got.Serial != serial:
				want = api.ErrLost
			case ok && got.What == api.Done:
				want = api.OK
			case ok && got.What == api.Other:
				want = api.ErrConflict
			}
			y.hears(fmt.Sprintf("turn %d: %s", i, brief(a)), a, want)
		}
	}
}

// P14.2: a header of a swap that was answered by other is in no later answer of that life: who shows it did it.
func TestRefused(t *testing.T) {
	x, cmd, next := swapping(t)
	floor := x.c.Floor()
	m := pairs{key("a"): "2", key("b"): "3"}
	other, _ := header.Next("key", floor, m.root(), 8, 9)
	behind := func(h api.Signed) []api.Signed {
		last, _ := header.Next("key", h, m.root(), 8, 1)
		return []api.Signed{h, last}
	}
	x.hears("other", word(1<<32+3, api.Other), api.ErrConflict)
	serial := uint64(1<<32 + 4)
	x.asks(keys("a"))
	for what, l := range map[string][]api.Signed{"the header": {next}, "the header, and one behind it": behind(next)} {
		y := x.copied()
		y.hears(what, story(serial, l, shows(t, m, keys("a"))), api.ErrTamper)
		y.alarms(what, floor)
		// In another life nobody knows any more what was refused in the one ahead.
		y.reborn(0)
		y.asks(keys("a"))
		y.hears(what+", behind a crash", story(2<<32+1, l, shows(t, m, keys("a"))), api.OK)
		y.at(what+", behind a crash", l[len(l)-1])
		y.reads(m, "a")
	}
	for what, l := range map[string][]api.Signed{"another client's": {other}, "another one, and one behind it": behind(other)} {
		y := x.copied()
		y.hears(what, story(serial, l, shows(t, m, keys("a"))), api.OK)
		y.at(what, l[len(l)-1])
		y.reads(m, "a")
	}
	// The shard did it, though it said other.
	if got := x.s.Apply(cmd); got != word(1<<32+3, api.Done) {
		t.Fatal(brief(got))
	}
	y := x.copied()
	cmd, _ = y.c.Pending()
	y.hears("what it did", y.s.Apply(cmd), api.ErrTamper)
	y.alarms("what it did", floor)
}

// P14.2: of several that were refused, behind looks that show nothing new, none may come, nor behind a refused one that comes again.
func TestRefusedOften(t *testing.T) {
	x := started(t)
	x.looks(keys("a"))
	x.swaps(puts("a", "1"))
	floor := x.c.Floor()
	elder := shows(t, pairs{key("a"): "1"}, keys("a"))
	serial := x.c.Life()<<32 + 2
	var refused []api.Signed
	var maps []pairs
	for i := range 6 {
		m := pairs{key("a"): fmt.Sprint("v", i%4)}
		cmd := x.changes(puts("a", fmt.Sprint("v", i%4)))
		next := sealed("key", api.Header{Shard: 4, Seq: 2, Prev: plainHash(floor.Header), Root: m.root(), Who: 7, Stamp: 9})
		if !strings.Contains(cmd, plainSigned(next)) {
			t.Fatal("another header")
		}
		serial++
		x.hears("other", word(serial, api.Other), api.ErrConflict)
		x.blind("a")
		refused, maps = append(refused, next), append(maps, m)
		serial++
		x.asks(keys("a"))
		for j, h := range refused {
			y := x.copied()
			y.hears("refused", story(serial, []api.Signed{h}, shows(t, maps[j], keys("a"))), api.ErrTamper)
			y.alarms("refused", floor)
		}
		y := x.copied()
		h := sealed("key", api.Header{Shard: 4, Seq: 2, Prev: plainHash(floor.Header), Root: pairs{key("a"): "v9"}.root(), Who: 7, Stamp: 9})
		y.hears("never made", story(serial, []api.Signed{h}, shows(t, pairs{key("a"): "v9"}, keys("a"))), api.OK)
		y.at("never made", h)
		// Nothing new.
		x.hears("a look", story(serial, nil, elder), api.OK)
		x.reads(pairs{key("a"): "1"}, "a")
	}
	// The same swap, done at last.
	y := x.copied()
	y.changes(puts("a", "v0"))
	y.hears("done at last", word(serial+1, api.Done), api.OK)
	y.at("done at last", refused[0])
	// The floor moves, and a new one is refused there.
	x.changes(puts("a", "v9"))
	x.hears("done", word(serial+1, api.Done), api.OK)
	floor = x.c.Floor()
	x.changes(puts("a", "v10"))
	x.hears("other", word(serial+2, api.Other), api.ErrConflict)
	next := sealed("key", api.Header{Shard: 4, Seq: 3, Prev: plainHash(floor.Header), Root: pairs{key("a"): "v10"}.root(), Who: 7, Stamp: 9})
	x.asks(nil)
	x.hears("refused", story(serial+3, []api.Signed{next}, shows(t, pairs{key("a"): "v10"}, nil)), api.ErrTamper)
	x.alarms("refused", floor)
}

// spread: a shard with many pairs, and a client of it.
func spread(t *testing.T, n int) (*side, pairs) {
	t.Helper()
	x := started(t)
	m := pairs{}
	var l []api.Pair
	for i := range n {
		l = append(l, puts(fmt.Sprint(i), fmt.Sprint("v", i))...)
	}
	x.looks(nil, api.Prefix{Key: fill(0)})
	x.swaps(l)
	return x, m.with(l, nil)
}

// P14.1: of keys that were looked for any may be put and deleted, there or not, in any order, and once more.
func TestEditsOfAsked(t *testing.T) {
	r := rand.New(rand.NewSource(14))
	x, m := spread(t, 12)
	gone := 0
	for range 400 {
		var names []string
		for range r.Intn(7) {
			names = append(names, fmt.Sprint(r.Intn(30)))
		}
		var p []api.Pair
		var d []string
		for _, name := range names {
			switch r.Intn(4) {
			case 0:
				p = append(p, puts(name, fmt.Sprint(r.Intn(9)))...)
			case 1:
				d = append(d, key(name))
			case 2:
				d = append(d, keys(name, name)...)
			case 3:
				p, d = append(p, puts(name, "x")...), append(d, key(name))
			}
		}
		x.looks(keys(names...))
		if inOrder(x.c.view, p, d) == "" {
			gone++
		}
		x.swaps(p, d...)
		m = m.with(p, d)
		x.at("swapped", x.last())
		if x.last().Header.Root != m.root() || x.s.Map().Root() != m.root() {
			t.Fatal("another map")
		}
		// As far as it is told, it is so.
		for i := range 30 {
			k := key(i)
			v, found, err := x.c.Get(k)
			want, there := m[k]
			if err == api.OK && (v != want || found != there) {
				t.Fatalf("at %d: %q, %t", i, v, found)
			}
			if err != api.OK && slices.ContainsFunc(p, func(p api.Pair) bool { return p.Key == k }) && !slices.Contains(d, k) {
				t.Fatalf("at %d: what was put isn't told", i)
			}
		}
	}
	if gone == 0 {
		t.Error("no delete left another one to what isn't told any more")
	}
}

// inOrder: the root that the puts and then each delete lead to, where the part tells each of them at its turn.
func inOrder(p *part.Part, puts []api.Pair, deletes []string) string {
	for _, x := range puts {
		p, _ = p.Put(x.Key, x.Val)
	}
	for _, k := range deletes {
		p, _ = p.Delete(k)
	}
	return p.Root()
}

// What the view tells of a delete counts, also where a delete ahead of it leaves nothing but a hash in its place.
func TestDeleteBesideHash(t *testing.T) {
	left, near, far := fill(0), "\x00"+fill(0)[1:31]+"\x01", "\x80"+fill(0)[1:]
	all := pairs{left: "left", far: "far", "\xc0" + fill(0)[1:]: "farther"}
	x := started(t)
	var l []api.Pair
	for k, v := range all {
		l = append(l, api.Pair{Key: k, Val: v})
	}
	x.looks(nil, api.Prefix{Key: fill(0)})
	x.swaps(l)
	for _, d := range [][]string{{left, near}, {near, left}, {left, left}, {left, near, left, near}} {
		y := x.copied()
		y.s = shard.New(4, x.last())
		if !y.s.Restore(x.s.State()) {
			t.Fatal("no state")
		}
		y.looks([]string{left, near})
		y.blindAt(far)
		y.swaps(nil, d...)
		if got, want := y.c.Floor().Header.Root, all.with(nil, d).root(); got != want {
			t.Errorf("another root")
		}
		// What stood beside it is told by its hash alone: so is what is asked now.
		y.blindAt(left, near, far)
		y.refuses("a delete", api.ErrArg, func() (string, api.Errno) { return y.c.Swap(nil, []string{near}, 1) })
	}
}

// blindAt: the view doesn't tell these keys.
func (x *side) blindAt(keys ...string) {
	x.t.Helper()
	for _, k := range keys {
		if v, found, err := x.c.Get(k); v != "" || found || err != api.ErrArg {
			x.t.Errorf("at %s: %q, %t, %d", brief(k), v, found, err)
		}
	}
}

// P14.1: Get and Under of what is there and what isn't, what the view tells and what it doesn't.
func TestReads(t *testing.T) {
	x, m := spread(t, 50)
	all := x.copied()
	asked := keys("3", "none", "17")
	under := api.Prefix{Key: key("5"), Bits: 3}
	x.looks(asked, under)
	told, dark := 0, 0
	for i := range 100 {
		k := key(i)
		want, there := m[k]
		if v, found, err := all.c.Get(k); v != want || found != there || err != api.OK {
			t.Fatalf("of all, at %d: %q, %t, %d", i, v, found, err)
		}
		v, found, err := x.c.Get(k)
		if err == api.OK {
			told++
		} else {
			dark++
		}
		if err == api.OK && (v != want || found != there) || err != api.OK && (v != "" || found || err != api.ErrArg) {
			t.Fatalf("at %d: %q, %t, %d", i, v, found, err)
		}
		if err != api.OK && (slices.Contains(asked, k) || bits(k)[:3] == bits(under.Key)[:3]) {
			t.Fatalf("%d was asked for", i)
		}
		for _, n := range []int{0, 1, 2, 3, 4, 5, 8, 255, 256} {
			if l, err := all.c.Under(k, n); !slices.Equal(l, m.under(k, n)) || err != api.OK {
				t.Fatalf("of all, under %d, %d bits: %s, %d", i, n, brief(l), err)
			}
			l, err := x.c.Under(k, n)
			if err == api.OK && !slices.Equal(l, m.under(k, n)) || err != api.OK && (l != nil || err != api.ErrArg) {
				t.Fatalf("under %d, %d bits: %s, %d", i, n, brief(l), err)
			}
			if err == api.OK && n < 2 || err != api.OK && n >= 3 && bits(k)[:3] == bits(under.Key)[:3] {
				t.Fatalf("under %d, %d bits: %d", i, n, err)
			}
		}
	}
	if told < 10 || dark < 20 {
		t.Errorf("%d told, %d not", told, dark)
	}
	for _, n := range []int{-1, 257, -1 << 32, 1 << 32} {
		if l, err := x.c.Under(key("3"), n); l != nil || err != api.OK {
			t.Errorf("%d bits: %v, %d", n, l, err)
		}
	}
	for _, k := range wrongKeys() {
		if v, found, err := x.c.Get(k); v != "" || found || err != api.OK {
			t.Errorf("a key of %d bytes: %q, %t, %d", len(k), v, found, err)
		}
		if l, err := x.c.Under(k, 0); l != nil || err != api.OK {
			t.Errorf("a prefix of a key of %d bytes: %v, %d", len(k), l, err)
		}
	}
	// A look for something else: what was told ahead isn't any more.
	x.looks(keys("4"))
	x.reads(m, "4")
	x.blindAt(asked[0])
	// While something is pending the view is what it was.
	cmd := x.asks(keys("3"))
	x.reads(m, "4")
	x.hears("look", x.s.Apply(cmd), api.OK)
	x.reads(m, "3")
}
