package vkv

import (
	"crypto/hmac"
	"crypto/sha256"
	"fmt"
	"maps"
	"math"
	"slices"
	"strings"
	"testing"

	"vidimus/api"
	"vidimus/disk"
	"vidimus/header"
	"vidimus/shard"
	"vidimus/trie"
)

const most = math.MaxUint64

// size, num, text, rows: bytes by the words of layer 3.
func size(n int) string {
	if n < 128 {
		return string([]byte{byte(n)})
	}
	return string([]byte{byte(n%128 + 128)}) + size(n/128)
}

func num(n uint64) string {
	digits := ""
	for ; n > 0; n /= 256 {
		digits = string([]byte{byte(n % 256)}) + digits
	}
	return "n" + size(len(digits)) + digits
}

func text(s string) string { return "s" + size(len(s)) + s }

func rows(kids ...string) string { return "l" + size(len(kids)) + strings.Join(kids, "") }

// each: the bytes of the list of what f makes of l's items.
func each[T any](l []T, f func(T) string) string {
	var kids []string
	for _, x := range l {
		kids = append(kids, f(x))
	}
	return rows(kids...)
}

// hash: by the library's own.
func hash(s string) string {
	sum := sha256.Sum256([]byte(s))
	return string(sum[:])
}

// fields: of a header, as they stand in lists.
func fields(h api.Header) []string {
	return []string{num(h.Shard), num(h.Seq), text(h.Prev), text(h.Root), num(h.Who), num(h.Stamp)}
}

func plainHash(h api.Header) string { return hash(rows(fields(h)...)) }

// sealed: a header by a key, with the library's own seal.
func sealed(key string, h api.Header) api.Signed {
	m := hmac.New(sha256.New, []byte(key))
	m.Write([]byte(rows(fields(h)...)))
	return api.Signed{Header: h, Mac: string(m.Sum(nil))}
}

func plainSigned(s api.Signed) string { return rows(append(fields(s.Header), text(s.Mac))...) }

func plainPair(p api.Pair) string { return rows(text(p.Key), text(p.Val)) }

func plainPrefix(p api.Prefix) string { return rows(text(p.Key), num(uint64(p.Bits))) }

// lookBytes, swapBytes: commands, by the words of layer 13.
func lookBytes(who, serial, seq uint64, keys []string, under []api.Prefix) string {
	return rows(num(0), num(who), num(serial), num(seq), each(keys, text), each(under, plainPrefix))
}

func swapBytes(who, serial uint64, next api.Signed, puts []api.Pair, deletes []string) string {
	return rows(num(1), num(who), num(serial), text(next.Header.Prev), plainSigned(next), each(puts, plainPair), each(deletes, text))
}

// word, story: the bytes of answers.
func word(serial uint64, what int) string { return rows(num(serial), num(uint64(what))) }

func story(serial uint64, headers []api.Signed, part string) string {
	return rows(num(serial), num(0), each(headers, plainSigned), text(part))
}

// key: the key of a name.
func key(name any) string { return hash(fmt.Sprint(name)) }

// fill: 32 bytes of one kind.
func fill(b byte) string { return strings.Repeat(string([]byte{b}), 32) }

// puts: of names, each the key of the first one, and the second one.
func puts(l ...string) []api.Pair {
	var out []api.Pair
	for i := 0; i < len(l); i += 2 {
		out = append(out, api.Pair{Key: key(l[i]), Val: l[i+1]})
	}
	return out
}

// keys: of names.
func keys(l ...string) []string {
	var out []string
	for _, name := range l {
		out = append(out, key(name))
	}
	return out
}

// pairs: a map in plain words.
type pairs map[string]string

// with: the pairs behind puts, in order, and then deletes.
func (m pairs) with(puts []api.Pair, deletes []string) pairs {
	out := maps.Clone(m)
	if out == nil {
		out = pairs{}
	}
	for _, p := range puts {
		out[p.Key] = p.Val
	}
	for _, k := range deletes {
		delete(out, k)
	}
	return out
}

func (m pairs) trie() *trie.Trie {
	t := trie.New()
	for k, v := range m {
		t = t.Put(k, v)
	}
	return t
}

func (m pairs) root() string { return m.trie().Root() }

// bits: of a key, a letter for each.
func bits(key string) string {
	var b strings.Builder
	for i := range len(key) {
		fmt.Fprintf(&b, "%08b", key[i])
	}
	return b.String()
}

// under: the pairs whose keys have so many first bits of key, rising.
func (m pairs) under(key string, n int) []api.Pair {
	var out []api.Pair
	if len(key) != 32 || n < 0 || n > 256 {
		return nil
	}
	for _, k := range slices.Sorted(maps.Keys(m)) {
		if strings.HasPrefix(bits(k), bits(key)[:n]) {
			out = append(out, api.Pair{Key: k, Val: m[k]})
		}
	}
	return out
}

// brief: a short text of what a test tells.
func brief(x any) string {
	s := fmt.Sprintf("%+q", fmt.Sprint(x))
	return s[:min(len(s), 300)]
}

// turns: s with a byte turned, in a few ways at each place, and cut at each place.
func turns(s string) []string {
	var out []string
	for i := range s {
		out = append(out, s[:i])
		for _, d := range []byte{1, 2, 4, 8, 16, 32, 64, 128, 255} {
			b := []byte(s)
			b[i] ^= d
			out = append(out, string(b))
		}
	}
	return append(out, s+"\x00", s+"n\x00", s+s, "\x00"+s)
}

// opened: a client on a disk.
func opened(t *testing.T, d *disk.Disk, key string, number, who uint64) *Client {
	t.Helper()
	c, err := Open(d, key, number, who)
	if err != api.OK || c == nil {
		t.Fatalf("Open: %d", err)
	}
	return c
}

// side: a client of an honest shard 4, by the key "key".
type side struct {
	t *testing.T
	s *shard.Shard
	d *disk.Disk
	c *Client
}

// started: the shard and the client 7 are new.
func started(t *testing.T) *side {
	t.Helper()
	d := disk.New()
	return &side{t: t, s: shard.New(4, header.First("key", 4)), d: d, c: opened(t, d, "key", 4, 7)}
}

// beside: another client of the same shard.
func (x *side) beside(who uint64) *side {
	x.t.Helper()
	d := disk.New()
	return &side{t: x.t, s: x.s, d: d, c: opened(x.t, d, "key", 4, who)}
}

// reborn: the client behind a crash.
func (x *side) reborn(keep int) {
	x.t.Helper()
	x.d.Crash(keep)
	x.c = opened(x.t, x.d, "key", 4, x.c.who)
}

// asks: a look's command.
func (x *side) asks(keys []string, under ...api.Prefix) string {
	x.t.Helper()
	cmd, err := x.c.Look(keys, under)
	if err != api.OK || cmd == "" {
		x.t.Fatalf("Look: %d", err)
	}
	return cmd
}

// changes: a swap's command.
func (x *side) changes(puts []api.Pair, deletes ...string) string {
	x.t.Helper()
	cmd, err := x.c.Swap(puts, deletes, 9)
	if err != api.OK || cmd == "" {
		x.t.Fatalf("Swap: %d", err)
	}
	return cmd
}

// hears: an answer, of which that comes.
func (x *side) hears(what, answer string, want api.Errno) {
	x.t.Helper()
	if got := x.c.Heard(answer); got != want {
		x.t.Fatalf("%s: %d; asked for %d", what, got, want)
	}
}

// looks: a look, answered.
func (x *side) looks(keys []string, under ...api.Prefix) {
	x.t.Helper()
	x.hears("look", x.s.Apply(x.asks(keys, under...)), api.OK)
}

// swaps: a swap, done.
func (x *side) swaps(puts []api.Pair, deletes ...string) {
	x.t.Helper()
	x.hears("swap", x.s.Apply(x.changes(puts, deletes...)), api.OK)
}

// reads: at these names is that (or nothing, of one that hasn't any there).
func (x *side) reads(m pairs, names ...string) {
	x.t.Helper()
	for _, name := range names {
		want, there := m[key(name)]
		if v, found, err := x.c.Get(key(name)); v != want || found != there || err != api.OK {
			x.t.Errorf("at %s: %q, %t, %d; asked for %q, %t", name, v, found, err, want, there)
		}
	}
}

// blind: the view doesn't tell, or there is none.
func (x *side) blind(names ...string) {
	x.t.Helper()
	for _, name := range names {
		if v, found, err := x.c.Get(key(name)); v != "" || found || err != api.ErrArg {
			x.t.Errorf("at %s: %q, %t, %d", name, v, found, err)
		}
		if l, err := x.c.Under(key(name), 256); l != nil || err != api.ErrArg {
			x.t.Errorf("under %s: %v, %d", name, l, err)
		}
	}
}

// at: the floor is that header, and so it is behind a crash.
func (x *side) at(what string, want api.Signed) {
	x.t.Helper()
	if got := x.c.Floor(); got != want {
		x.t.Fatalf("%s: the floor is %s; asked for %s", what, brief(got), brief(want))
	}
	if got := onDisk(x.t, x.d); got != want {
		x.t.Fatalf("%s: the floor behind a crash is %s; asked for %s", what, brief(got), brief(want))
	}
}

// onDisk: the floor that a crash would leave; the disk itself is left as it is.
func onDisk(t *testing.T, d *disk.Disk) api.Signed {
	t.Helper()
	s, err := d.Read()
	if err != api.OK {
		t.Fatal("down")
	}
	left := disk.New()
	left.Swap(s[:len(s)-d.Waits()])
	return opened(t, left, "key", 4, 7).Floor()
}

// last: the shard's last header.
func (x *side) last() api.Signed {
	chain := x.s.Chain()
	return chain[len(chain)-1]
}

// idle: nothing is pending.
func (x *side) idle(what string) {
	x.t.Helper()
	if cmd, ok := x.c.Pending(); cmd != "" || ok {
		x.t.Fatalf("%s: %s is pending", what, brief(cmd))
	}
}

// waits: that command is pending.
func (x *side) waits(what, cmd string) {
	x.t.Helper()
	if got, ok := x.c.Pending(); got != cmd || !ok {
		x.t.Fatalf("%s: %s, %t is pending; asked for %s", what, brief(got), ok, brief(cmd))
	}
}

// alarms: it is alarmed, and does nothing any more, but tells its floor.
func (x *side) alarms(what string, floor api.Signed) {
	x.t.Helper()
	if !x.c.Alarmed() || x.c.Down() {
		x.t.Fatalf("%s: alarmed %t, down %t", what, x.c.Alarmed(), x.c.Down())
	}
	x.idle(what)
	x.at(what, floor)
	x.blind("a", "none")
	if cmd, err := x.c.Look(nil, nil); cmd != "" || err != api.ErrTamper {
		x.t.Fatalf("%s: Look %d", what, err)
	}
	if cmd, err := x.c.Look([]string{"short"}, nil); cmd != "" || err != api.ErrTamper {
		x.t.Fatalf("%s: Look of no key %d", what, err)
	}
	if cmd, err := x.c.Swap(nil, nil, 0); cmd != "" || err != api.ErrTamper {
		x.t.Fatalf("%s: Swap %d", what, err)
	}
	for _, s := range []string{"", "junk", word(x.c.Life()<<32+1, 1)} {
		if err := x.c.Heard(s); err != api.ErrTamper {
			x.t.Fatalf("%s: Heard %d", what, err)
		}
	}
	x.idle(what)
}
