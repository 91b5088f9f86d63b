package shard

import (
	"fmt"
	"math"
	"slices"
	"strings"
	"testing"

	"vidimus/api"
	"vidimus/header"
	"vidimus/part"
	"vidimus/trie"
)

// P13.1: a new shard has its first header alone, and no pairs, whatever header that is.
func TestNew(t *testing.T) {
	for _, number := range []uint64{0, 4, 258, most} {
		first := header.First("key", number)
		s := New(number, first)
		if got := s.Chain(); !slices.Equal(got, []api.Signed{first}) {
			t.Errorf("%d: headers %s", number, brief(got))
		}
		if m := s.Map(); m == nil || m.Len() != 0 || m.Root() != fill(0) {
			t.Errorf("%d: a map %s", number, brief(m.All()))
		}
		want := rows(num(number), rows(plainSigned(first)), rows(), rows())
		if got := s.State(); got != want {
			t.Errorf("%d: state %s", number, brief(got))
		}
		started(number).tells(t, "new")
	}
	far := api.Signed{Header: api.Header{Shard: 9, Seq: 100, Prev: fill(1), Root: fill(2), Who: 3, Stamp: 4}, Mac: "any"}
	x := &sides{s: New(4, far), m: newModel(4, far)}
	x.tells(t, "a first header of a great number, of another shard")
	x.is(t, "ahead of it", cmd{client: 1, serial: 1, seq: 101}.bytes(), 1, api.Ahead)
	if a := x.hears(t, "at it", cmd{client: 1, serial: 2, seq: 100}.bytes()); a.What != api.Seen || len(a.Headers) > 0 {
		t.Error(brief(a))
	}
	if a := x.hears(t, "behind less", cmd{client: 1, serial: 3, seq: 3}.bytes()); a.What != api.Seen || !slices.Equal(a.Headers, []api.Signed{far}) {
		t.Error(brief(a))
	}
	// The map has another root; a swap may lead it to one.
	x.swaps(t, 1, 4, puts("a", "b"), nil)
}

// P13.1: bytes of commands and answers, as they stand here.
func TestKnownBytes(t *testing.T) {
	zero := strings.Repeat("\x00", 32)
	got := Look(1, 2, 258, []string{"k", ""}, []api.Prefix{{Key: "p", Bits: 5}, {Bits: -1}, {Key: zero, Bits: math.MinInt}})
	want := "l\x06n\x00n\x01\x01n\x01\x02n\x02\x01\x02l\x02s\x01ks\x00l\x03l\x02s\x01pn\x01\x05l\x02s\x00n\x08\xff\xff\xff\xff\xff\xff\xff\xffl\x02s\x20" + zero + "n\x08\x80\x00\x00\x00\x00\x00\x00\x00"
	if got != want {
		t.Errorf("look %q", got)
	}
	if got := Look(0, 0, 0, nil, nil); got != "l\x06n\x00n\x00n\x00n\x00l\x00l\x00" {
		t.Errorf("look %q", got)
	}
	next := api.Signed{Header: api.Header{Shard: 1, Seq: 2, Prev: zero, Root: zero, Who: 3, Stamp: 4}, Mac: "mac"}
	signed := "l\x07n\x01\x01n\x01\x02s\x20" + zero + "s\x20" + zero + "n\x01\x03n\x01\x04s\x03mac"
	got = Swap(most, 256, "hash", next, []api.Pair{{Key: "k", Val: "v"}, {}}, []string{"d", ""})
	want = "l\x07n\x01\x01n\x08\xff\xff\xff\xff\xff\xff\xff\xffn\x02\x01\x00s\x04hash" + signed + "l\x02l\x02s\x01ks\x01vl\x02s\x00s\x00l\x02s\x01ds\x00"
	if got != want {
		t.Errorf("swap %q", got)
	}
	if got := Swap(0, 0, "", next, nil, nil); got != "l\x07n\x01\x01n\x00n\x00s\x00"+signed+"l\x00l\x00" {
		t.Errorf("swap %q", got)
	}
	first := header.First("key", 4)
	s := New(4, first)
	for _, x := range []struct{ cmd, want string }{
		{"junk", "l\x02n\x00n\x01\x05"},
		{"", "l\x02n\x00n\x01\x05"},
		{Look(1, 3, 0, nil, nil), "l\x04n\x01\x03n\x00l\x00s\x02l\x00"},
		{Look(1, 2, 0, nil, nil), "l\x02n\x01\x02n\x01\x04"},
		{Look(1, 300, 9, nil, nil), "l\x02n\x02\x01\x2cn\x01\x02"},
		{Swap(2, 1, "other", next, nil, nil), "l\x02n\x01\x01n\x01\x03"},
		{Swap(2, 2, header.Hash(first.Header), next, nil, nil), "l\x02n\x01\x02n\x01\x05"},
	} {
		if got := s.Apply(x.cmd); got != x.want {
			t.Errorf("to %q: %q", x.cmd, got)
		}
	}
	after, _ := header.Next("key", first, zero, 5, 6)
	if got := s.Apply(Swap(2, 3, header.Hash(first.Header), after, nil, nil)); got != "l\x02n\x01\x03n\x01\x01" {
		t.Errorf("done: %q", got)
	}
	want = "l\x04n\x01\x04l\x02" + plainSigned(first) + plainSigned(after) + "l\x00l\x02" +
		"l\x03n\x01\x01n\x02\x01\x2cs\x09l\x02n\x02\x01\x2cn\x01\x02" + "l\x03n\x01\x02n\x01\x03s\x08l\x02n\x01\x03n\x01\x01"
	if got := s.State(); got != want {
		t.Errorf("state %q", got)
	}
}

// numbers: around each count of bytes, and the greatest.
func numbers() []uint64 {
	out := []uint64{0, 1, 2, 127, 128, most - 1, most}
	for bit := 8; bit < 64; bit += 8 {
		out = append(out, 1<<bit-1, 1<<bit, 1<<bit+1)
	}
	return out
}

// P13.1: the bytes of commands of any fields, also of keys, hashes and prefixes that aren't right.
func TestCommandBytes(t *testing.T) {
	words := []string{"", "x", "s\x00", fill(0), fill(255), strings.Repeat("k", 31), strings.Repeat("k", 33), strings.Repeat("k", 127), strings.Repeat("k", 128), strings.Repeat("k", 20000)}
	bits := []int{0, 1, 8, 255, 256, 257, 1 << 40, math.MaxInt, -1, -2, -256, math.MinInt}
	next := header.First("key", 1)
	for i, n := range numbers() {
		for j, m := range numbers() {
			c := cmd{client: n, serial: m, seq: n ^ m, keys: words[:i%10], hash: words[j%10]}
			for k, w := range words[:j%10] {
				c.under = append(c.under, api.Prefix{Key: w, Bits: bits[(i+k)%12]})
				c.puts = append(c.puts, api.Pair{Key: words[(i+k)%10], Val: w})
			}
			if got := Look(n, m, n^m, c.keys, c.under); got != c.bytes() {
				t.Fatalf("look %s; asked for %s", brief(got), brief(c.bytes()))
			}
			c.what, c.next, c.deletes = 1, next, c.keys
			c.next.Mac = words[(i+j)%10]
			if got := Swap(n, m, c.hash, c.next, c.puts, c.deletes); got != c.bytes() {
				t.Fatalf("swap %s; asked for %s", brief(got), brief(c.bytes()))
			}
		}
	}
	for _, count := range []int{127, 128, 129, 20000} {
		l, p := slices.Repeat([]string{fill(1)}, count), slices.Repeat([]api.Prefix{{Key: fill(2), Bits: 3}}, count)
		if Look(1, 2, 3, l, p) != (cmd{client: 1, serial: 2, seq: 3, keys: l, under: p}).bytes() {
			t.Errorf("%d keys and prefixes", count)
		}
		a := slices.Repeat([]api.Pair{{Key: fill(1), Val: "v"}}, count)
		if Swap(1, 2, "h", next, a, l) != (cmd{what: 1, client: 1, serial: 2, hash: "h", next: next, puts: a, deletes: l}).bytes() {
			t.Errorf("%d puts and deletes", count)
		}
	}
}

// P13.1: what is no header has no node: there is no such swap.
func TestSwapOfNoHeader(t *testing.T) {
	for _, n := range []int{0, 1, 31, 33, 64} {
		s := strings.Repeat("x", n)
		for _, h := range []api.Header{{Prev: s, Root: s}, {Prev: fill(0), Root: s}, {Prev: s, Root: fill(0)}} {
			next := api.Signed{Header: h, Mac: "mac"}
			if got := Swap(1, 1, fill(0), next, nil, nil); got != "" {
				t.Errorf("%d: %s", n, brief(got))
			}
			x := played(t, 4)
			x.is(t, "no header", cmd{what: 1, client: 9, serial: 9, hash: plainHash(x.last().Header), next: next}.bytes(), 0, api.Bad)
		}
	}
}

// P13.1: looks from any Seq: the headers behind it, and what is shown for keys and prefixes that are there, and that aren't.
func TestLooks(t *testing.T) {
	x := started(4)
	chain, pairs := x.s.Chain(), map[string]string{}
	for i := range 30 {
		name := fmt.Sprint(i)
		x.swaps(t, 1, uint64(i), puts(name, "v"+name), nil)
		chain, pairs[key(i)] = append(chain, x.last()), "v"+name
	}
	m := mapOf(pairs)
	serial := uint64(0)
	for seq := range uint64(35) {
		for _, c := range []cmd{
			{},
			{keys: keys("3")},
			{keys: keys("3", "none", "3", "29")},
			{keys: []string{"", "x", fill(0)[:31], fill(0) + "\x00", fill(0), fill(255)}},
			{under: []api.Prefix{{Key: key("3"), Bits: 4}}},
			{under: []api.Prefix{{Key: key("3"), Bits: 0}}},
			{under: []api.Prefix{{Key: key("3"), Bits: 256}, {Key: key("none"), Bits: 256}, {Key: key("none"), Bits: 2}}},
			{under: []api.Prefix{{Key: key("3"), Bits: -1}, {Key: key("4"), Bits: 257}, {Key: "x", Bits: 0}, {Key: key("5"), Bits: math.MinInt}, {Key: key("6"), Bits: 1 << 32}}},
			{keys: keys("7", "none"), under: []api.Prefix{{Key: key("8"), Bits: 3}}},
		} {
			serial++
			what := fmt.Sprintf("from %d, %d keys, %d prefixes", seq, len(c.keys), len(c.under))
			a := x.hears(t, what, Look(2, serial, seq, c.keys, c.under))
			if seq > 30 {
				if a.What != api.Ahead || a.Serial != serial || a.Headers != nil || a.Text != "" {
					t.Fatalf("%s: %s", what, brief(a))
				}
				continue
			}
			if a.What != api.Seen || a.Serial != serial || !slices.Equal(a.Headers, chain[seq+1:]) {
				t.Fatalf("%s: %s", what, brief(a))
			}
			last, ok := header.Chain("key", chain[seq], a.Headers)
			if !ok || last != chain[30] {
				t.Fatalf("%s: no chain", what)
			}
			showsAll(t, what, m, a.Text, c)
		}
	}
	for _, seq := range []uint64{31, 1 << 32, most - 1, most} {
		serial++
		x.is(t, fmt.Sprint("from ", seq), Look(2, serial, seq, nil, nil), serial, api.Ahead)
	}
}

// showsAll: the text is a part of the map, and tells all that was asked as the map does, and just that.
func showsAll(t *testing.T, what string, m *trie.Trie, text string, c cmd) {
	t.Helper()
	if want, ok := part.Show(m, c.keys, c.under); !ok || text != want {
		t.Fatalf("%s: text %s; asked for %s", what, brief(text), brief(want))
	}
	p, ok := part.Open(m.Root(), text)
	if !ok {
		t.Fatalf("%s: no part", what)
	}
	for _, k := range c.keys {
		want, there := m.Get(k)
		if got, found, known := p.Get(k); got != want || found != there || !known {
			t.Fatalf("%s: at %s: %q, %t, %t", what, brief(k), got, found, known)
		}
	}
	for _, u := range c.under {
		if got, known := p.Under(u.Key, u.Bits); !known || !slices.Equal(got, m.Under(u.Key, u.Bits)) {
			t.Fatalf("%s: under %s: %s, %t", what, brief(u), brief(got), known)
		}
	}
}

// P13.1: a look shows the map as it is when it is done, and says so once more behind changes.
func TestLookStays(t *testing.T) {
	x := started(4)
	x.swaps(t, 1, 1, puts("a", "1"), nil)
	look := Look(2, 1, 0, keys("a"), nil)
	elder := x.hears(t, "look", look)
	x.swaps(t, 1, 2, puts("a", "2"), nil)
	if again := x.hears(t, "the same look", look); again.Text != elder.Text || len(again.Headers) != 1 {
		t.Error(brief(again))
	}
	newer := x.hears(t, "another look", Look(2, 2, 0, keys("a"), nil))
	if p, ok := part.Open(x.last().Header.Root, newer.Text); !ok || len(newer.Headers) != 2 {
		t.Error(brief(newer))
	} else if v, _, _ := p.Get(key("a")); v != "2" {
		t.Error(v)
	}
}

// P13.1: of a map without pairs.
func TestLookOfNothing(t *testing.T) {
	x := started(4)
	a := x.hears(t, "look", Look(1, 1, 0, keys("a"), []api.Prefix{{Key: key("b")}}))
	if a.What != api.Seen || len(a.Headers) > 0 || a.Text != "l\x00" {
		t.Error(brief(a))
	}
	x.is(t, "above", Look(1, 2, 1, keys("a"), nil), 2, api.Ahead)
}

// P13.1: a command of just 2^24 bytes, and one that is too long.
func TestLongLook(t *testing.T) {
	least := len(Look(1, 1, 0, []string{""}, nil))
	fit := strings.Repeat("k", api.MaxBytes-least-3)
	c := Look(1, 1, 0, []string{fit}, nil)
	if c != (cmd{client: 1, serial: 1, keys: []string{fit}}).bytes() || len(c) != api.MaxBytes {
		t.Fatalf("%d bytes", len(c))
	}
	x := started(4)
	if a := x.hears(t, "long", c); a.What != api.Seen {
		t.Error(brief(a))
	}
	for _, l := range [][]string{{fit + "k"}, {fit, ""}, {"", fit}, {strings.Repeat("k", api.MaxBytes)}, slices.Repeat([]string{""}, api.MaxBytes/2+1), slices.Repeat([]string{strings.Repeat("k", 1<<20)}, 1000)} {
		if got := Look(1, 1, 0, l, nil); got != "" {
			t.Errorf("%d keys: %d bytes", len(l), len(got))
		}
	}
	for _, l := range [][]api.Prefix{{{Key: fit + "k"}}, slices.Repeat([]api.Prefix{{}}, api.MaxBytes/6)} {
		if got := Look(1, 1, 0, nil, l); got != "" {
			t.Errorf("%d prefixes: %d bytes", len(l), len(got))
		}
	}
	many := slices.Repeat([]string{""}, (api.MaxBytes-least-3)/2)
	if got := Look(1, 1, 0, many, nil); len(got) < api.MaxBytes-8 {
		t.Errorf("%d keys: %d bytes", len(many), len(got))
	}
	wide := slices.Repeat([]api.Prefix{{}}, (api.MaxBytes-least-3)/6)
	if got := Look(1, 1, 0, nil, wide); len(got) < api.MaxBytes-12 {
		t.Errorf("%d prefixes: %d bytes", len(wide), len(got))
	}
	x.is(t, "of 2^24 + 1 bytes", cmd{client: 2, serial: 1, keys: []string{fit + "k"}}.bytes(), 0, api.Bad)
}

// P13.1: where what is asked for is too much for an answer, it is bad, and all goes on.
func TestLookOfTooMuch(t *testing.T) {
	x := started(4)
	x.swaps(t, 1, 1, puts("a", strings.Repeat("v", 9<<20)), nil)
	x.swaps(t, 1, 2, puts("b", strings.Repeat("w", 7<<20-200)), nil)
	x.is(t, "both", Look(2, 1, 2, keys("a", "b"), nil), 1, api.Seen)
	x.is(t, "both, and all headers", Look(3, 1, 0, keys("a", "b"), nil), 1, api.Bad)
	x.is(t, "one, and all headers", Look(2, 2, 0, keys("b"), nil), 2, api.Seen)
	x.swaps(t, 1, 3, puts("c", strings.Repeat("x", 9<<20)), nil)
	x.is(t, "two that are no part", Look(2, 3, 3, keys("a", "c"), nil), 3, api.Bad)
	x.is(t, "the same", Look(2, 3, 3, keys("b"), nil), 3, api.Bad)
	// Its state is too long too: it has no bytes.
	if x.s.State() != "" || x.s.Restore("") {
		t.Error("a state of more than 2^24 bytes")
	}
	x.swaps(t, 1, 4, nil, keys("a", "c"))
	if s := x.s.State(); s == "" || !New(4, header.First("key", 4)).Restore(s) {
		t.Error("no state")
	}
}
