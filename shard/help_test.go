package shard

import (
	"crypto/sha256"
	"fmt"
	"math"
	"slices"
	"strings"
	"testing"

	"vidimus/api"
	"vidimus/header"
	"vidimus/trie"
)

const most = math.MaxUint64

// size, num, text, rows: bytes by the words of layer 3.
func size(n int) string {
	if n < 128 {
		return string([]byte{byte(n)})
	}
	return string([]byte{byte(n%128 + 128)}) + size(n/128)
}

func num(n uint64) string {
	digits := ""
	for ; n > 0; n /= 256 {
		digits = string([]byte{byte(n % 256)}) + digits
	}
	return "n" + size(len(digits)) + digits
}

func text(s string) string { return "s" + size(len(s)) + s }

func rows(kids ...string) string { return "l" + size(len(kids)) + strings.Join(kids, "") }

// each: the bytes of the list of what f makes of l's items.
func each[T any](l []T, f func(T) string) string {
	var kids []string
	for _, x := range l {
		kids = append(kids, f(x))
	}
	return rows(kids...)
}

// hash: by the library's own.
func hash(s string) string {
	sum := sha256.Sum256([]byte(s))
	return string(sum[:])
}

// plainHash: a header's hash.
func plainHash(h api.Header) string {
	return hash(rows(num(h.Shard), num(h.Seq), text(h.Prev), text(h.Root), num(h.Who), num(h.Stamp)))
}

// plainSigned, plainPair, plainPrefix: what stands in lists.
func plainSigned(s api.Signed) string {
	h := s.Header
	return rows(num(h.Shard), num(h.Seq), text(h.Prev), text(h.Root), num(h.Who), num(h.Stamp), text(s.Mac))
}

func plainPair(p api.Pair) string { return rows(text(p.Key), text(p.Val)) }

func plainPrefix(p api.Prefix) string { return rows(text(p.Key), num(uint64(p.Bits))) }

// cmd: a command in plain words.
type cmd struct {
	what, client, serial uint64

	seq   uint64
	keys  []string
	under []api.Prefix

	hash    string
	next    api.Signed
	puts    []api.Pair
	deletes []string
}

// bytes: by the chapter's words.
func (c cmd) bytes() string {
	if c.what == 0 {
		return rows(num(0), num(c.client), num(c.serial), num(c.seq), each(c.keys, text), each(c.under, plainPrefix))
	}
	return rows(num(1), num(c.client), num(c.serial), text(c.hash), plainSigned(c.next), each(c.puts, plainPair), each(c.deletes, text))
}

// word, story: the bytes of answers.
func word(serial uint64, what int) string { return rows(num(serial), num(uint64(what))) }

func story(serial uint64, headers []api.Signed, part string) string {
	return rows(num(serial), num(0), each(headers, plainSigned), text(part))
}

// key: the key of a name.
func key(name any) string { return hash(fmt.Sprint(name)) }

// fill: 32 bytes of one kind.
func fill(b byte) string { return strings.Repeat(string([]byte{b}), 32) }

// puts: of names, each the key of the first one, and the second one.
func puts(l ...string) []api.Pair {
	var out []api.Pair
	for i := 0; i < len(l); i += 2 {
		out = append(out, api.Pair{Key: key(l[i]), Val: l[i+1]})
	}
	return out
}

// keys: of names.
func keys(l ...string) []string {
	var out []string
	for _, name := range l {
		out = append(out, key(name))
	}
	return out
}

// mapOf: a map of these pairs.
func mapOf(pairs map[string]string) *trie.Trie {
	t := trie.New()
	for k, v := range pairs {
		t = t.Put(k, v)
	}
	return t
}

// done: the pairs behind puts, in order, and then deletes.
func done(pairs map[string]string, puts []api.Pair, deletes []string) map[string]string {
	out := map[string]string{}
	for k, v := range pairs {
		out[k] = v
	}
	for _, p := range puts {
		out[p.Key] = p.Val
	}
	for _, k := range deletes {
		delete(out, k)
	}
	return out
}

// short text of what a test tells.
func brief(x any) string {
	s := fmt.Sprintf("%+q", fmt.Sprint(x))
	return s[:min(len(s), 300)]
}

// sides: a shard, and a model to which the same was done.
type sides struct {
	s *Shard
	m *model
}

// started: a new one of a number, with the first header by the key.
func started(number uint64) *sides {
	first := header.First("key", number)
	return &sides{s: New(number, first), m: newModel(number, first)}
}

// tells: the shard is as the model is.
func (x *sides) tells(t *testing.T, what string) {
	t.Helper()
	if !slices.Equal(x.s.Chain(), x.m.chain) {
		t.Fatalf("%s: headers %s; asked for %s", what, brief(x.s.Chain()), brief(x.m.chain))
	}
	if got, want := x.s.Map(), mapOf(x.m.pairs); got.Root() != want.Root() || !slices.Equal(got.All(), want.All()) || got.Len() != want.Len() {
		t.Fatalf("%s: pairs %s; asked for %s", what, brief(got.All()), brief(want.All()))
	}
	if got, want := x.s.State(), x.m.state(); got != want {
		t.Fatalf("%s: state %s; asked for %s", what, brief(got), brief(want))
	}
}

// hears: the command is done by both; what it is answered.
func (x *sides) hears(t *testing.T, what, c string) api.Answer {
	t.Helper()
	got, want := x.s.Apply(c), x.m.apply(c)
	if got != want {
		t.Fatalf("%s: %s; asked for %s", what, brief(got), brief(want))
	}
	x.tells(t, what)
	a, ok := Answer(got)
	if !ok {
		t.Fatalf("%s: no answer: %s", what, brief(got))
	}
	return a
}

// is: the command is done by both, and answered by this word.
func (x *sides) is(t *testing.T, what, c string, serial uint64, word int) {
	t.Helper()
	if a := x.hears(t, what, c); a.Serial != serial || a.What != word {
		t.Fatalf("%s: %d to %d; asked for %d to %d", what, a.What, a.Serial, word, serial)
	}
}

// last: the model's last header.
func (x *sides) last() api.Signed { return x.m.chain[len(x.m.chain)-1] }

// next: the header that follows, with the root that the edits lead to.
func (x *sides) next(puts []api.Pair, deletes []string, stamp uint64) api.Signed {
	s, ok := header.Next("key", x.last(), mapOf(done(x.m.pairs, puts, deletes)).Root(), 1, stamp)
	if !ok {
		panic("none follows")
	}
	return s
}

// swap: a right one.
func (x *sides) swap(client, serial uint64, puts []api.Pair, deletes []string) cmd {
	return cmd{
		what: 1, client: client, serial: serial, hash: plainHash(x.last().Header),
		next: x.next(puts, deletes, serial), puts: puts, deletes: deletes,
	}
}

// swaps: a right one is done.
func (x *sides) swaps(t *testing.T, client, serial uint64, puts []api.Pair, deletes []string) {
	t.Helper()
	x.is(t, fmt.Sprintf("swap %d of %d", serial, client), x.swap(client, serial, puts, deletes).bytes(), serial, api.Done)
}

// played: a shard on which three clients did this and that.
func played(t *testing.T, number uint64) *sides {
	t.Helper()
	x := started(number)
	x.swaps(t, 1, 1, puts("a", "1", "b", "2", "c", "3"), nil)
	x.swaps(t, 7, 258, puts("a", "one", "d", ""), keys("b"))
	x.hears(t, "look", cmd{client: 300, serial: 5, seq: 1, keys: keys("a", "b"), under: []api.Prefix{{Key: key("c"), Bits: 3}}}.bytes())
	x.swaps(t, 1, 2, nil, keys("d", "x"))
	x.hears(t, "a header that is elder", cmd{what: 1, client: 7, serial: 300, hash: fill(0), next: x.last()}.bytes())
	return x
}

// copied: another one that is the same.
func (x *sides) copied() *sides {
	m := *x.m
	m.told = map[uint64]answered{}
	for n, a := range x.m.told {
		m.told[n] = a
	}
	m.chain, m.pairs = slices.Clone(x.m.chain), done(x.m.pairs, nil, nil)
	s := New(x.m.number, api.Signed{})
	if !s.Restore(x.m.state()) {
		panic("a state isn't one")
	}
	return &sides{s: s, m: &m}
}

// turns: s with a byte turned, in a few ways at each place, and cut at each place.
func turns(s string) []string {
	var out []string
	for i := range s {
		out = append(out, s[:i])
		for _, d := range []byte{1, 2, 4, 8, 16, 32, 64, 128, 255} {
			b := []byte(s)
			b[i] ^= d
			out = append(out, string(b))
		}
	}
	return append(out, s+"\x00", s+"n\x00", s+s, "\x00"+s)
}
