package shard

import (
	"fmt"
	"slices"
	"strings"
	"testing"

	"vidimus/api"
	"vidimus/header"
)

// refuses: these bytes are no command: they are answered so, and nothing is done.
func refuses(t *testing.T, x *sides, what, c string) {
	t.Helper()
	before := x.s.State()
	if got := x.s.Apply(c); got != "l\x02n\x00n\x01\x05" {
		t.Errorf("%s: %s", what, brief(got))
	}
	if x.s.State() != before {
		t.Errorf("%s: something is done", what)
	}
	x.tells(t, what)
}

// P13.1: lists that are like a command's, but with a field missing, one too many, or one of another kind.
func TestNoCommand(t *testing.T) {
	x := played(t, 4)
	right := x.swap(1, 900, puts("n", "1"), keys("a"))
	look := []string{num(0), num(1), num(900), num(2), rows(text(key("a"))), rows(plainPrefix(api.Prefix{Key: key("a"), Bits: 3}))}
	swap := []string{num(1), num(1), num(900), text(right.hash), plainSigned(right.next), rows(plainPair(right.puts[0])), rows(text(key("a")))}
	if rows(swap...) != right.bytes() {
		t.Fatal("not a swap")
	}
	for name, fields := range map[string][]string{"look": look, "swap": swap} {
		for i := range fields {
			refuses(t, x, fmt.Sprint(name, " without field ", i), rows(slices.Delete(slices.Clone(fields), i, i+1)...))
			refuses(t, x, fmt.Sprint(name, " up to field ", i), rows(fields[:i]...))
			for _, other := range []string{num(900), text("t"), rows(), rows(num(1)), rows(rows()), rows(text("a"), num(3), num(4)), rows(rows(text("a"), text("b"), text("c")))} {
				refuses(t, x, fmt.Sprint(name, " with one more at ", i), rows(slices.Insert(slices.Clone(fields), i, other)...))
				l := slices.Clone(fields)
				l[i] = other
				if c := rows(l...); c[:4] != rows(fields...)[:4] || !isCommand(c) {
					refuses(t, x, fmt.Sprint(name, " with another field ", i), c)
				}
			}
			refuses(t, x, fmt.Sprint(name, " with one more"), rows(append(slices.Clone(fields), fields[i])...))
		}
		for _, what := range []string{num(2), num(3), num(5), num(256), num(1 << 32), num(most), text(""), text("\x00"), rows(), rows(num(0))} {
			l := slices.Clone(fields)
			l[0] = what
			refuses(t, x, fmt.Sprintf("%s, the What %q", name, what), rows(l...))
		}
	}
	look[0], swap[0] = swap[0], look[0]
	refuses(t, x, "a look with a swap's What", rows(look...))
	refuses(t, x, "a swap with a look's What", rows(swap...))
	x.is(t, "the swap", right.bytes(), 900, api.Done)
}

func isCommand(c string) bool {
	_, ok := plainCommand(c)
	return ok
}

// P13.1: items of a command's lists that aren't such.
func TestNoItems(t *testing.T) {
	x := played(t, 4)
	right := x.swap(1, 900, puts("n", "1"), keys("a"))
	items := []string{
		num(0), text("x"), rows(), rows(text("a")), rows(num(1)), rows(text("a"), text("b")), rows(num(1), text("b")), rows(text("a"), num(1)), rows(num(1), num(2)),
		rows(text("a"), rows()), rows(rows(), text("a")), rows(text("a"), text("b"), text("c")), rows(text("a"), num(1), num(2)), plainSigned(right.next),
	}
	for _, item := range items {
		for _, more := range [][]string{nil, {plainPair(right.puts[0])}, {text(key("a"))}, {plainPrefix(api.Prefix{Key: key("a")})}} {
			l := rows(append(more, item)...)
			for _, c := range []string{
				rows(num(0), num(1), num(800), num(0), l, rows()),
				rows(num(0), num(1), num(800), num(0), rows(), l),
				rows(num(1), num(1), num(800), text(""), plainSigned(right.next), l, rows()),
				rows(num(1), num(1), num(800), text(""), plainSigned(right.next), rows(), l),
				rows(num(1), num(1), num(800), text(""), item, rows(), rows()),
			} {
				if !isCommand(c) {
					refuses(t, x, brief(item), c)
				}
			}
		}
	}
	h := right.next.Header
	for i, field := range []string{num(h.Shard), num(h.Seq), text(h.Prev), text(h.Root), num(h.Who), num(h.Stamp), text("mac")} {
		for _, other := range []string{num(1), text(fill(1)), text("x"), rows(), text(fill(1) + "\x00"), text(fill(1)[:31])} {
			fields := []string{num(h.Shard), num(h.Seq), text(h.Prev), text(h.Root), num(h.Who), num(h.Stamp), text("mac")}
			fields[i] = other
			if c := rows(num(1), num(1), num(800), text(""), rows(fields...), rows(), rows()); !isCommand(c) {
				refuses(t, x, fmt.Sprintf("field %d, %s, is %s", i, brief(field), brief(other)), c)
			}
		}
		// The header, and the Mac beside it.
		refuses(t, x, "a Mac beside it", rows(num(1), num(1), num(800), text(""), rows(rows(num(h.Shard), num(h.Seq), text(h.Prev), text(h.Root), num(h.Who), num(h.Stamp)), text("mac")), rows(), rows()))
	}
	x.is(t, "the swap", right.bytes(), 900, api.Done)
}

// P13.1: bytes that are nothing, or another thing's.
func TestStrangeBytes(t *testing.T) {
	x := played(t, 4)
	deep := strings.Repeat("l\x01", 19) + num(0)
	for _, c := range []string{
		"", "\x00", "l", "l\x00", "n\x00", "s\x00", "junk", "l\x01l\x00", rows(num(0)), rows(num(1)), rows(num(0), num(0), num(0)), deep, "l\x01" + deep,
		x.m.state(), word(1, 1), story(1, x.m.chain, "t"), header.Text(x.m.chain), strings.Repeat("\xff", 1000), "l\xff\xff\xff\xff\x0f",
	} {
		refuses(t, x, brief(c), c)
	}
}

// P13.1: commands cut at each place, and with a byte turned: they are what they are then, or none.
func TestTurnedCommands(t *testing.T) {
	x := played(t, 4)
	for _, c := range []string{
		cmd{client: 1, serial: 900, seq: 2, keys: keys("a"), under: []api.Prefix{{Key: key("c"), Bits: 3}}}.bytes(),
		x.swap(1, 900, puts("n", "1"), keys("a")).bytes(),
		cmd{what: 1, client: 7, serial: 300, hash: fill(0), next: x.last()}.bytes(),
	} {
		none := 0
		for i, turned := range turns(c) {
			y := x
			if isCommand(turned) {
				y = x.copied()
			} else {
				none++
			}
			y.hears(t, fmt.Sprint("turn ", i), turned)
		}
		if none < len(c) {
			t.Errorf("%d of those are no command", none)
		}
		x.tells(t, "behind all that")
	}
}

// reads: what Answer says of s, by the chapter's words.
func reads(t *testing.T, what, s string) bool {
	t.Helper()
	got, ok := Answer(s)
	want, right := plainAnswer(s)
	if ok != right || got.Serial != want.Serial || got.What != want.What || got.Text != want.Text || !slices.Equal(got.Headers, want.Headers) {
		t.Errorf("%s: %s, %t; asked for %s, %t", what, brief(got), ok, brief(want), right)
	}
	return ok
}

// P13.1: answers, read.
func TestAnswers(t *testing.T) {
	chain := played(t, 4).m.chain
	for _, serial := range numbers() {
		for what := 1; what <= 5; what++ {
			a, ok := Answer(word(serial, what))
			if !ok || a.Serial != serial || a.What != what || a.Headers != nil || a.Text != "" {
				t.Errorf("%d to %d: %s, %t", what, serial, brief(a), ok)
			}
		}
		for i := range chain {
			for _, s := range []string{"", "l\x00", "any", fill(0), strings.Repeat("t", 20000)} {
				a, ok := Answer(story(serial, chain[i:], s))
				if !ok || a.Serial != serial || a.What != api.Seen || !slices.Equal(a.Headers, chain[i:]) || a.Text != s {
					t.Errorf("seen to %d: %s, %t", serial, brief(a), ok)
				}
			}
		}
		if a, ok := Answer(story(serial, nil, "")); !ok || a.Serial != serial || a.What != api.Seen || len(a.Headers) > 0 || a.Text != "" {
			t.Errorf("seen to %d: %s, %t", serial, brief(a), ok)
		}
	}
	// Whether headers follow one another isn't asked.
	l := []api.Signed{chain[2], chain[0], chain[0], {Header: api.Header{Prev: fill(1), Root: fill(2)}}}
	if a, ok := Answer(story(1, l, "")); !ok || !slices.Equal(a.Headers, l) {
		t.Error(brief(a))
	}
}

// P13.1: what is read as no answer.
func TestNoAnswers(t *testing.T) {
	chain := played(t, 4).m.chain
	l := each(chain, plainSigned)
	short := chain[0]
	short.Header.Root = "short"
	for _, s := range []string{
		"", "l\x00", "n\x00", "s\x00", "junk", rows(num(1)), rows(num(1), num(0)), rows(num(1), num(6)), rows(num(1), num(7)), rows(num(1), num(256)), rows(num(1), num(257)),
		rows(num(1), num(1<<32)), rows(num(1), num(1<<32+1)), rows(num(1), num(most)), rows(text("1"), num(1)), rows(num(1), text("1")), rows(num(1), rows()), rows(rows(), num(1)),
		rows(num(1), num(1), num(1)), rows(num(1), num(1), rows(), text("")), rows(num(1), num(5), l, text("t")), rows(num(1), num(0), l), rows(num(1), num(0), text("t")),
		rows(num(1), num(0), text("t"), l), rows(num(1), num(0), l, text("t"), text("t")), rows(num(1), num(0), l, num(0)), rows(num(1), num(0), l, rows()),
		rows(num(1), num(0), num(0), text("t")), rows(num(1), num(0), text(""), text("t")), rows(num(1), num(0), rows(num(0)), text("t")), rows(num(1), num(0), rows(rows()), text("t")),
		rows(num(1), num(0), each([]api.Signed{short}, plainSigned), text("t")), rows(num(1), num(0), rows(plainSigned(chain[0]), text("h")), text("t")),
		rows(text(""), num(0), l, text("t")), rows(num(1), text(""), l, text("t")), word(1, 1) + "\x00", "\x00" + word(1, 1), word(1, 1) + word(1, 1),
	} {
		if reads(t, brief(s), s) {
			t.Errorf("%s is read", brief(s))
		}
	}
	if a, ok := Answer(rows(num(1), num(6))); ok || a.Serial != 0 || a.What != 0 {
		t.Error(brief(a))
	}
}

// P13.1: answers cut at each place, and with a byte turned.
func TestTurnedAnswers(t *testing.T) {
	chain := played(t, 4).m.chain
	for _, s := range []string{word(0, 1), word(258, 2), word(1, 3), word(most, 4), word(0, 5), story(7, chain[:2], "text"), story(0, nil, "l\x00")} {
		if !reads(t, "right", s) {
			t.Error(brief(s))
		}
		for i, turned := range turns(s) {
			reads(t, fmt.Sprintf("turn %d of %s", i, brief(s)), turned)
		}
	}
}
