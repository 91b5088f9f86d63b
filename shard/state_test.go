package shard

import (
	"fmt"
	"slices"
	"strings"
	"testing"

	"vidimus/api"
	"vidimus/header"
	"vidimus/trie"
)

// takes: a shard of any past takes the state of x, and goes on as x does.
func takes(t *testing.T, what string, x *sides) {
	t.Helper()
	state := x.s.State()
	for name, s := range map[string]*Shard{
		"a new one":                   New(x.m.number, header.First("other", x.m.number)),
		"one that did something else": played(t, x.m.number).s,
		"the same one":                x.copied().s,
	} {
		if !s.Restore(state) {
			t.Errorf("%s, %s: it isn't taken", what, name)
			continue
		}
		y := x.copied()
		y.s = s
		y.tells(t, what+", "+name)
		for n, a := range x.m.told {
			if got := s.Apply(Look(n, a.serial, 0, nil, nil)); got != a.answer {
				t.Errorf("%s, %s: client %d is told %s", what, name, n, brief(got))
			}
		}
		y.swaps(t, 1, 5000, puts("new", name), nil)
		y.hears(t, what, Look(2, 5000, 0, keys("new", "a"), nil))
	}
}

// P13.1: the state behind this and that, taken by others.
func TestStates(t *testing.T) {
	x := started(4)
	takes(t, "new", x)
	x.is(t, "a look", Look(3, 0, 0, nil, nil), 0, api.Seen)
	takes(t, "behind a look", x)
	x.swaps(t, 1, 1, puts("a", "1", "b", "", "c", "3"), nil)
	takes(t, "behind a swap", x)
	x.is(t, "what is bad", cmd{what: 1, client: 5, serial: 5, hash: plainHash(x.last().Header), next: x.last()}.bytes(), 5, api.Bad)
	x.is(t, "other", cmd{what: 1, client: 0, serial: 0, next: x.last()}.bytes(), 0, api.Other)
	x.is(t, "ahead", Look(most, most, most, nil, nil), most, api.Ahead)
	x.is(t, "old", Look(most, 0, 0, nil, nil), 0, api.Old)
	takes(t, "behind all answers", x)
	x.swaps(t, 1, 2, nil, keys("a", "b", "c"))
	takes(t, "behind the last delete", x)
	for _, number := range []uint64{0, 258, most} {
		takes(t, fmt.Sprint("number ", number), played(t, number))
	}
	for i := range uint64(300) {
		x.is(t, "one of many clients", Look(1000+i*i*i%997*7919, i, 99, nil, nil), i, api.Ahead)
		if i%100 == 0 {
			x.swaps(t, 1, 100+i, puts(fmt.Sprint(i), "v"), nil)
		}
	}
	takes(t, "many clients", x)
}

// R7: the state hangs on what is so, not on how it came.
func TestStateOneWay(t *testing.T) {
	first := header.First("key", 4)
	want := ""
	for i := range uint64(20) {
		s := New(4, first)
		for j := range uint64(20) {
			s.Apply(Look((i*7+j*3)%20, 5, 0, nil, nil))
		}
		if want == "" {
			want = s.State()
		}
		if s.State() != want || s.State() != want {
			t.Fatal("unlike states")
		}
	}
}

// P13.1: whether headers follow one another, and whether the last one's Root is that of the pairs, isn't asked.
func TestStateOfAnyHeaders(t *testing.T) {
	other := header.First("kez", 9)
	far := api.Signed{Header: api.Header{Shard: 9, Seq: 70, Prev: fill(3), Root: fill(4), Who: 5, Stamp: 6}}
	near := api.Signed{Header: api.Header{Shard: 4, Seq: 7, Prev: fill(5), Root: fill(6)}, Mac: "mac"}
	for _, chain := range [][]api.Signed{{other}, {far, near}, {other, other}, {far, far, near, far}} {
		m := newModel(4, other)
		m.chain, m.pairs = chain, done(nil, puts("a", "1", "b", "2"), nil)
		m.told = map[uint64]answered{5: {5, word(5, 3)}, 6: {0, story(0, chain, "no part")}, 7: {9, word(9, 4)}, 300: {1, word(1, 5)}}
		x := &sides{s: New(4, header.First("key", 4)), m: m}
		if !x.s.Restore(m.state()) {
			t.Fatalf("%s isn't taken", brief(chain))
		}
		x.tells(t, "restored")
		for seq := range uint64(75) {
			x.hears(t, fmt.Sprint("from ", seq), Look(8, seq, seq, keys("a"), nil))
		}
		x.is(t, "the same serial", Look(5, 5, 0, nil, nil), 5, api.Other)
		x.is(t, "less", Look(7, 8, 0, nil, nil), 8, api.Old)
		x.swaps(t, 8, 100, puts("c", "3"), keys("a"))
	}
}

// P13.1: a state of just 2^24 bytes, and one that is too long, by headers, pairs or clients.
func TestLongStates(t *testing.T) {
	least := api.Signed{Header: api.Header{Prev: fill(0), Root: fill(0)}}
	head := len(rows(num(4), strings.Repeat("l", 4), rows(), rows()))
	count := (api.MaxBytes - head) / len(plainSigned(least))
	rest := api.MaxBytes - head - count*len(plainSigned(least))
	m := newModel(4, least)
	m.chain = slices.Repeat([]api.Signed{least}, count)
	m.chain[count-1].Mac = strings.Repeat("m", rest)
	x := &sides{s: New(4, least), m: m}
	if s := m.state(); len(s) != api.MaxBytes || !x.s.Restore(s) || x.s.State() != s {
		t.Fatalf("%d headers: %d bytes", count, len(s))
	}
	x.s.chain[0].Mac = "m"
	if got := x.s.State(); got != "" {
		t.Errorf("one byte more: %d", len(got))
	}
	for _, n := range []int{count + 1, api.MaxBytes/len(plainSigned(least)) + 1, 2 * count} {
		x.s.chain = slices.Repeat([]api.Signed{least}, n)
		if got := x.s.State(); got != "" {
			t.Errorf("%d headers: %d bytes", n, len(got))
		}
	}
	// As many headers as fit, and one more, behind a look.
	least.Header.Seq = 200
	head = len(rows(num(9), num(0), strings.Repeat("l", 4), text("l\x00")))
	count = (api.MaxBytes - head) / len(plainSigned(least))
	for i := range 3 {
		x.s.chain = slices.Repeat([]api.Signed{least}, count+i)
		a, ok := Answer(x.s.Apply(Look(uint64(i), 9, 0, nil, nil)))
		if want := min(i, 1) * api.Bad; !ok || a.Serial != 9 || a.What != want || a.What == api.Seen && len(a.Headers) != count {
			t.Errorf("%d headers: %d", count+i, a.What)
		}
	}
	y := started(4)
	y.s.Restore(rows(num(4), rows(plainSigned(least)), rows(plainPair(api.Pair{Key: fill(1), Val: strings.Repeat("v", 16000000)})), rows()))
	if y.s.State() == "" {
		t.Error("no state of a long value")
	}
	y.s.Apply(Look(1, 1, 0, []string{fill(1)}, nil))
	if got := y.s.State(); got != "" {
		t.Errorf("a long value, shown to a client: %d bytes", len(got))
	}
}

// stays: no shard of number 4 takes the state, nor one of number 0 what is like it with that number, and nothing changes.
func stays(t *testing.T, what, state string) {
	t.Helper()
	four := rows(num(4), "", "", "")
	for _, number := range []uint64{4, 0} {
		x := played(t, number)
		if number == 0 && strings.HasPrefix(state, four) {
			state = rows(num(0), "", "", "") + state[len(four):]
		}
		if x.s.Restore(state) {
			t.Errorf("%s: %s is taken", what, brief(state))
		}
		x.tells(t, what)
		x.swaps(t, 1, 900, puts("n", "1"), nil)
	}
}

// P13.1: what is no state.
func TestNoStates(t *testing.T) {
	x := played(t, 4)
	chain, pairs := each(x.m.chain, plainSigned), each(x.s.Map().All(), plainPair)
	a, b := rows(num(1), num(5), text(word(5, 1))), rows(num(2), num(5), text(word(5, 1)))
	if s := rows(num(4), chain, pairs, rows(a, b)); !x.copied().s.Restore(s) {
		t.Fatal("not a state")
	}
	for _, n := range []uint64{3, 5, 260, 4 << 8, 4 << 32, most} {
		stays(t, fmt.Sprint("number ", n), rows(num(n), chain, pairs, rows(a, b)))
	}
	if played(t, 4).s.Restore(rows(num(0), chain, pairs, rows(a, b))) || played(t, 0).s.Restore(rows(num(4), chain, pairs, rows(a, b))) {
		t.Error("0 and 4 are one number")
	}
	fields := []string{num(4), chain, pairs, rows(a, b)}
	for i := range fields {
		stays(t, fmt.Sprint("without ", i), rows(slices.Delete(slices.Clone(fields), i, i+1)...))
		stays(t, fmt.Sprint("twice ", i), rows(slices.Insert(slices.Clone(fields), i, fields[i])...))
		for _, other := range []string{num(1), text(""), rows(num(1)), rows(text("a")), rows(rows())} {
			l := slices.Clone(fields)
			l[i] = other
			if _, ok := plainState(rows(l...)); !ok || i == 0 {
				stays(t, fmt.Sprintf("%d is %s", i, brief(other)), rows(l...))
			}
		}
	}
	stays(t, "one more", rows(append(slices.Clone(fields), rows())...))
	for _, s := range []string{"", "l\x00", "n\x01\x04", "junk", word(4, 1), Look(4, 1, 0, nil, nil), rows(fields...) + "\x00"} {
		stays(t, "another thing's bytes", s)
	}
	for what, l := range map[string]string{
		"no header":         rows(),
		"a short Root":      rows(plainSigned(api.Signed{Header: api.Header{Prev: fill(0), Root: "r"}})),
		"a short Prev":      rows(plainSigned(x.last()), plainSigned(api.Signed{Header: api.Header{Prev: fill(0)[:31], Root: fill(0)}})),
		"a text among them": rows(plainSigned(x.last()), text("h")),
		"without a Mac":     rows(rows(num(4), num(0), text(fill(0)), text(fill(0)), num(0), num(0))),
		"a Mac too many":    rows(rows(num(4), num(0), text(fill(0)), text(fill(0)), num(0), num(0), text("m"), text("m"))),
	} {
		stays(t, what, rows(num(4), l, pairs, rows(a, b)))
	}
}

// P13.1: keys and clients that don't rise, or aren't such.
func TestNoStateItems(t *testing.T) {
	chain := each(played(t, 4).m.chain, plainSigned)
	low, mid, high := fill(1), fill(1)[:31]+"\x02", fill(255)
	at := func(k string) string { return rows(text(k), text("v")) }
	for what, l := range map[string]string{
		"twice":              rows(at(low), at(low)),
		"falling":            rows(at(mid), at(low)),
		"falling at the end": rows(at(low), at(high), at(mid)),
		"a signed order":     rows(at(high), at(low)),
		"of 31 bytes":        rows(at(low[:31])),
		"of 33 bytes":        rows(at(low), at(low+"\x00")),
		"of no byte":         rows(at(""), at(low)),
		"a key alone":        rows(rows(text(low))),
		"three texts":        rows(rows(text(low), text("v"), text("w"))),
		"a number":           rows(rows(text(low), num(1))),
		"a key that is one":  rows(rows(num(1), text("v"))),
		"a list":             rows(rows(text(low), rows())),
		"a text":             rows(text(low)),
	} {
		stays(t, "keys: "+what, rows(num(4), chain, l, rows()))
	}
	told := func(n, serial uint64, answer string) string { return rows(num(n), num(serial), text(answer)) }
	for what, l := range map[string]string{
		"twice":              rows(told(1, 1, word(1, 1)), told(1, 1, word(1, 1))),
		"twice, serials not": rows(told(1, 1, word(1, 1)), told(1, 2, word(2, 1))),
		"falling":            rows(told(2, 1, word(1, 1)), told(1, 2, word(2, 1))),
		"falling at the end": rows(told(1, 1, word(1, 1)), told(most, 1, word(1, 1)), told(2, 2, word(2, 1))),
		"another serial":     rows(told(1, 1, word(2, 1))),
		"no answer":          rows(told(1, 1, "")),
		"another number":     rows(told(1, 1, word(1, 6))),
		"not the bytes":      rows(rows(num(1), num(1), word(1, 1))),
		"without an answer":  rows(rows(num(1), num(1))),
		"one too many":       rows(rows(num(1), num(1), text(word(1, 1)), num(1))),
		"a text for one":     rows(rows(text("1"), num(1), text(word(1, 1)))),
		"a text as serial":   rows(rows(num(1), text(""), text(word(0, 1)))),
		"a number":           rows(num(1)),
	} {
		stays(t, "clients: "+what, rows(num(4), chain, rows(), l))
	}
}

// P13.1: states cut at each place, and with a byte turned: what is taken then is that state, else nothing changes.
func TestTurnedStates(t *testing.T) {
	x := played(t, 4)
	state := x.s.State()
	taken := 0
	for i, s := range turns(state) {
		y := played(t, 4)
		m, ok := plainState(s)
		ok = ok && m.number == 4
		if got := y.s.Restore(s); got != ok {
			t.Fatalf("turn %d: %t", i, got)
		}
		if ok {
			y.m, taken = m, taken+1
			if y.s.State() != s {
				t.Fatalf("turn %d: another state", i)
			}
		}
		y.tells(t, fmt.Sprint("turn ", i))
	}
	if taken < 1000 {
		t.Errorf("%d of those are states", taken)
	}
}

// R2: of a nil *Shard.
func TestNil(t *testing.T) {
	var s *Shard
	x := played(t, 4)
	for _, c := range []string{"", "junk", Look(1, 1, 0, nil, nil), x.swap(1, 900, nil, nil).bytes()} {
		if got := s.Apply(c); got != "" {
			t.Error(brief(got))
		}
	}
	if s.State() != "" || s.Restore("") || s.Restore(x.s.State()) || len(s.Chain()) > 0 || s.Map() != nil {
		t.Error("it isn't nothing")
	}
}

// P0: a shard that nobody made, or whose first header is none, panics nowhere.
func TestStrangeShards(t *testing.T) {
	x := played(t, 4)
	shards := []*Shard{new(Shard)}
	for _, h := range []api.Header{{}, {Seq: 5}, {Seq: most, Prev: "p", Root: "r"}, {Prev: fill(0), Root: "r"}} {
		shards = append(shards, New(0, api.Signed{Header: h}))
	}
	for i, s := range shards {
		for _, c := range []string{
			"", Look(1, 1, 0, keys("a"), []api.Prefix{{}}), Look(1, 2, 5, nil, nil), Look(1, 3, most, nil, nil), x.swap(2, 1, puts("a", "b"), keys("a")).bytes(),
			cmd{what: 1, client: 2, serial: 2, next: x.last()}.bytes(), cmd{what: 1, client: 2, serial: 3, hash: plainHash(api.Header{}), next: x.last()}.bytes(),
		} {
			if s.Apply(c) == "" {
				t.Errorf("shard %d: nothing is answered", i)
			}
		}
		s.Restore(s.State())
		if len(s.Chain()) > 1 || s.Map().Len() != 0 {
			t.Errorf("shard %d: something is done", i)
		}
		if s.Restore(started(0).s.State()); len(s.Chain()) != 1 || s.Map().Root() != fill(0) {
			t.Errorf("shard %d isn't restored", i)
		}
	}
}

// R4: what is answered is the caller's own, and what is handed in isn't changed.
func TestOwnMemory(t *testing.T) {
	x := played(t, 4)
	chain := x.s.Chain()
	for i := range chain {
		chain[i] = api.Signed{}
	}
	_ = append(x.s.Chain()[:1], api.Signed{})
	x.tells(t, "a chain that was written over")
	m := x.s.Map()
	*m = *trie.New()
	x.tells(t, "a map that was written over")
	elder, root := x.s.Map(), x.s.Map().Root()
	x.swaps(t, 1, 900, puts("n", "1"), keys("a"))
	if elder.Root() != root {
		t.Error("an elder map is changed")
	}
	look := Look(2, 900, 0, nil, nil)
	a, _ := Answer(x.s.Apply(look))
	x.m.apply(look)
	b, _ := Answer(x.s.Apply(look))
	a.Headers[0] = api.Signed{}
	if b.Headers[0] == a.Headers[0] {
		t.Error("two answers share headers")
	}
	x.tells(t, "an answer that was written over")
	k, u, p := keys("a", "b"), []api.Prefix{{Key: key("a"), Bits: -3}}, puts("a", "1", "b", "2")
	Look(1, 2, 3, k, u)
	Swap(1, 2, fill(0), x.last(), p, k)
	if !slices.Equal(k, keys("a", "b")) || u[0] != (api.Prefix{Key: key("a"), Bits: -3}) || !slices.Equal(p, puts("a", "1", "b", "2")) {
		t.Error("what was handed in is changed")
	}
}
