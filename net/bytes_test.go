package net

import (
	"fmt"
	"math"
	"math/rand"
	"reflect"
	"runtime"
	"slices"
	"strings"
	"testing"

	"vidimus/api"
)

// size, num, text, rows: bytes by the words of layer 3.
func size(n int) string {
	if n < 128 {
		return string([]byte{byte(n)})
	}
	return string([]byte{byte(n%128 + 128)}) + size(n/128)
}

func num(n uint64) string {
	digits := ""
	for ; n > 0; n /= 256 {
		digits = string([]byte{byte(n % 256)}) + digits
	}
	return "n" + size(len(digits)) + digits
}

func text(s string) string { return "s" + size(len(s)) + s }

func rows(kids ...string) string { return "l" + size(len(kids)) + strings.Join(kids, "") }

// fieldsOf: the bytes of each of a message's fields, in order.
func fieldsOf(m api.Msg) []string {
	var entries []string
	for _, e := range m.Entries {
		entries = append(entries, rows(num(e.Term), text(e.Cmd)))
	}
	ok := uint64(0)
	if m.OK {
		ok = 1
	}
	return []string{
		num(uint64(m.Kind)), num(uint64(m.From) + 1), num(uint64(m.To) + 1),
		num(m.Term), num(m.Index), num(m.LogTerm), num(m.Commit), num(ok), rows(entries...), text(m.State),
	}
}

// plain: the bytes of a message, by the words of the chapter.
func plain(m api.Msg) string { return rows(fieldsOf(m)...) }

// short: at most the first letters of a text.
func short(s string) string { return fmt.Sprintf("%d bytes, %.60q", len(s), s) }

// both: m has these bytes, and these bytes are m.
func both(t *testing.T, what string, m api.Msg, want string) {
	t.Helper()
	if got := Bytes(m); got != want {
		t.Errorf("%s: %s; asked for %s", what, short(got), short(want))
	}
	if got, ok := Read(want); !ok || !alike(got, m) {
		t.Errorf("%s: read as %.200v, %t", what, got, ok)
	}
}

// unread: s is no message's bytes.
func unread(t *testing.T, what, s string) {
	t.Helper()
	if m, ok := Read(s); ok || !reflect.DeepEqual(m, api.Msg{}) {
		t.Errorf("%s: %s is read as %.200v, %t", what, short(s), m, ok)
	}
}

// P10.1: messages by bytes that stand here.
func TestBytesKnown(t *testing.T) {
	both(t, "zero", api.Msg{}, "l\x0an\x00n\x01\x01n\x01\x01n\x00n\x00n\x00n\x00n\x00l\x00s\x00")
	both(t, "to and from none", api.Msg{From: -1, To: -1}, "l\x0an\x00n\x00n\x00n\x00n\x00n\x00n\x00n\x00l\x00s\x00")
	both(t, "each field otherwise", api.Msg{
		Kind: 4, From: 6, To: 8, Term: 3, Index: 258, LogTerm: 2, Commit: 1, OK: true,
		Entries: []api.Entry{{Term: 5, Cmd: "ab"}, {}}, State: "xyz",
	}, "l\x0an\x01\x04n\x01\x07n\x01\x09n\x01\x03n\x02\x01\x02n\x01\x02n\x01\x01n\x01\x01l\x02l\x02n\x01\x05s\x02abl\x02n\x00s\x00s\x03xyz")
	both(t, "the greatest terms", api.Msg{
		From: 254, To: 255, Term: math.MaxUint64, Index: math.MaxUint64 - 1, LogTerm: 1 << 56, Commit: 1<<56 - 1,
	}, "l\x0an\x00n\x01\xffn\x02\x01\x00n\x08\xff\xff\xff\xff\xff\xff\xff\xffn\x08\xff\xff\xff\xff\xff\xff\xff\xfe"+
		"n\x08\x01\x00\x00\x00\x00\x00\x00\x00n\x07\xff\xff\xff\xff\xff\xff\xffn\x00l\x00s\x00")
}

// P10.1: each field at its edges, the others zero or full.
func TestFields(t *testing.T) {
	for _, m := range []api.Msg{{}, full(), full(api.Entry{Term: 1, Cmd: "a"}, api.Entry{})} {
		for _, k := range []int{0, 1, 4, 5, 127, 128, 255, 256, 1<<31 - 1, 1 << 31} {
			x := m
			x.Kind = k
			both(t, fmt.Sprint("Kind ", k), x, plain(x))
		}
		for _, k := range []int{-1, 0, 1, 8, 9, 126, 127, 254, 255, 1<<31 - 2, 1<<31 - 1} {
			x, y := m, m
			x.From, y.To = k, k
			both(t, fmt.Sprint("From ", k), x, plain(x))
			both(t, fmt.Sprint("To ", k), y, plain(y))
		}
		for _, n := range []uint64{0, 1, 2, 255, 256, 1 << 31, 1<<31 + 1, 1 << 32, 1 << 63, math.MaxUint64 - 1, math.MaxUint64} {
			for i := range 4 {
				x := m
				*[]*uint64{&x.Term, &x.Index, &x.LogTerm, &x.Commit}[i] = n
				both(t, fmt.Sprintf("number %d at %d", n, i), x, plain(x))
			}
			x := m
			x.Entries = []api.Entry{{Term: n}, {Term: n, Cmd: "c"}}
			both(t, fmt.Sprintf("entries of term %d", n), x, plain(x))
		}
		for _, ok := range []bool{false, true} {
			x := m
			x.OK = ok
			both(t, fmt.Sprint("OK ", ok), x, plain(x))
		}
	}
}

// P10.1: entries of each count of bytes of a size, commands and states of any bytes.
func TestTexts(t *testing.T) {
	all := ""
	for b := range 256 {
		all += string([]byte{byte(b)})
	}
	for _, s := range []string{"", "\x00", "s\x00", "é", "\xff\xfe", all, strings.Repeat("x", 127), strings.Repeat("x", 128), strings.Repeat("x", 16384)} {
		x := api.Msg{State: s}
		both(t, "state "+short(s), x, plain(x))
		x = api.Msg{Entries: []api.Entry{{Cmd: s}}}
		both(t, "command "+short(s), x, plain(x))
		x = full(api.Entry{Term: 1, Cmd: s}, api.Entry{Term: 2}, api.Entry{Cmd: s})
		both(t, "commands "+short(s), x, plain(x))
	}
	for _, count := range []int{0, 1, 2, 127, 128, 129, 16383, 16384} {
		x := full()
		for i := range count {
			x.Entries = append(x.Entries, api.Entry{Term: uint64(i), Cmd: fmt.Sprint(i)})
		}
		both(t, fmt.Sprint(count, " entries"), x, plain(x))
	}
}

// P10.1: "" of a Kind below 0, of From or To below -1.
func TestNoBytes(t *testing.T) {
	for _, m := range []api.Msg{{}, full(api.Entry{Term: 1, Cmd: "a"})} {
		for _, k := range []int{-1, -2, -1 << 31, math.MinInt + 1, math.MinInt} {
			x := m
			x.Kind = k
			if got := Bytes(x); got != "" {
				t.Errorf("Kind %d: %q", k, got)
			}
			x.From, x.To = k-1, k-1
			if got := Bytes(x); got != "" {
				t.Errorf("all three at %d: %q", k, got)
			}
		}
		for _, k := range []int{-2, -3, -1 << 31, math.MinInt + 1, math.MinInt} {
			x, y := m, m
			x.From, y.To = k, k
			if got := Bytes(x); got != "" {
				t.Errorf("From %d: %q", k, got)
			}
			if got := Bytes(y); got != "" {
				t.Errorf("To %d: %q", k, got)
			}
		}
	}
}

// P10.1: of greater numbers than are read there are bytes, but these are no message's.
func TestAboveMost(t *testing.T) {
	for _, k := range []int{1<<31 + 1, 1<<32 - 1, 1 << 32, 1 << 62, math.MaxInt - 1, math.MaxInt} {
		for i := range 3 {
			x := full(api.Entry{Term: 1, Cmd: "a"})
			*[]*int{&x.Kind, &x.From, &x.To}[i] = k
			if got := Bytes(x); got != plain(x) {
				t.Errorf("%d at %d: %q", k, i, got)
			}
			unread(t, fmt.Sprintf("%d at %d", k, i), plain(x))
		}
	}
	for _, n := range []uint64{1<<31 + 1, 1<<31 + 2, 1 << 32, 1<<32 + 1, 1 << 63, 1<<63 + 1, math.MaxUint64} {
		for i := range 3 {
			l := fieldsOf(full())
			l[i] = num(n)
			unread(t, fmt.Sprintf("the number %d at %d", n, i), rows(l...))
		}
	}
	for i := range 3 {
		l := fieldsOf(full())
		l[i] = num(1 << 31)
		if m, ok := Read(rows(l...)); !ok || Bytes(m) != rows(l...) {
			t.Errorf("2^31 at %d: %v, %t", i, m, ok)
		}
	}
}

// P10.1: OK is 0 or 1.
func TestReadOK(t *testing.T) {
	for _, n := range []uint64{2, 3, 255, 256, 257, 1 << 32, 1<<32 + 1, math.MaxUint64} {
		l := fieldsOf(full())
		l[7] = num(n)
		unread(t, fmt.Sprint("OK ", n), rows(l...))
	}
}

// long: a message of just so many bytes, by its state; it has these entries.
func long(length int, entries ...api.Entry) api.Msg {
	m := api.Msg{From: 3, To: 4, Entries: entries}
	least := len(plain(m)) - len(text(""))
	for s := length - least - 5; ; s++ {
		if least+1+len(size(s))+s == length {
			m.State = strings.Repeat("s", s)
			return m
		}
	}
}

// P10.1: what is just not too long, and what is.
func TestLong(t *testing.T) {
	for _, entries := range [][]api.Entry{nil, {{Term: 1, Cmd: "a"}}, {{Cmd: strings.Repeat("c", 1<<23)}}} {
		m := long(api.MaxBytes, entries...)
		if got := Bytes(m); len(got) != api.MaxBytes {
			t.Errorf("of 2^24 bytes: %d", len(got))
		}
		both(t, "of 2^24 bytes", m, plain(m))
		m.State += "s"
		if got := Bytes(m); got != "" {
			t.Errorf("of 2^24 + 1 bytes: %d", len(got))
		}
		unread(t, "of 2^24 + 1 bytes", plain(m))
		m.State = m.State[:len(m.State)-2]
		both(t, "of 2^24 - 1 bytes", m, plain(m))
	}
	for _, length := range []int{api.MaxBytes, api.MaxBytes + 1, 3 * api.MaxBytes} {
		s := strings.Repeat("x", length)
		if got := Bytes(api.Msg{State: s}); got != "" {
			t.Errorf("a state of %d: %d bytes", length, len(got))
		}
		if got := Bytes(api.Msg{Entries: []api.Entry{{}, {Cmd: s}}}); got != "" {
			t.Errorf("a command of %d: %d bytes", length, len(got))
		}
	}
}

// P10.1: as many entries as fit, and one more.
func TestManyEntries(t *testing.T) {
	m := api.Msg{From: -1, To: -1}
	fit := (api.MaxBytes - len(plain(m)) - 3) / len(rows(num(0), text("")))
	m.Entries = make([]api.Entry, fit)
	m.State = "sss"
	s := Bytes(m)
	if len(s) != api.MaxBytes {
		t.Fatalf("%d entries: %d bytes", fit, len(s))
	}
	if got, ok := Read(s); !ok || !alike(got, m) {
		t.Errorf("%d entries: read otherwise, %t", fit, ok)
	}
	m.State = ""
	for _, count := range []int{fit + 1, fit + 5} {
		m.Entries = make([]api.Entry, count)
		if got := Bytes(m); got != "" {
			t.Errorf("%d entries: %d bytes", count, len(got))
		}
	}
}

// P0: far too many entries are refused without memory for them all.
func TestFarTooMany(t *testing.T) {
	entries := make([]api.Entry, 20000000)
	var before, after runtime.MemStats
	runtime.ReadMemStats(&before)
	if got := Bytes(api.Msg{Entries: entries}); got != "" {
		t.Errorf("%d bytes", len(got))
	}
	runtime.ReadMemStats(&after)
	if taken := after.TotalAlloc - before.TotalAlloc; taken > 1<<24 {
		t.Errorf("%d bytes of memory", taken)
	}
}

// P10.1: trees of other shapes are no messages.
func TestReadOthers(t *testing.T) {
	good := full(api.Entry{Term: 1, Cmd: "a"}, api.Entry{Term: 2, Cmd: "b"}, api.Entry{Term: 3, Cmd: "c"})
	for _, s := range []string{"", "\x00", "n\x00", "s\x00", "l\x00", "l", "x", num(10), text("state"), text(plain(good)), rows(plain(good)), rows(rows(), rows())} {
		unread(t, "other", s)
	}
	l := fieldsOf(good)
	for i := range l {
		unread(t, fmt.Sprint("without the field ", i), rows(slices.Delete(slices.Clone(l), i, i+1)...))
		for _, other := range []string{num(0), num(1), text(""), text("a"), rows(), rows(num(1)), rows(rows(num(1), text("a")))} {
			if other[0] != l[i][0] {
				x := slices.Clone(l)
				x[i] = other
				unread(t, fmt.Sprintf("%q at %d", other, i), rows(x...))
			}
			x := slices.Insert(slices.Clone(l), i, other)
			unread(t, fmt.Sprintf("%q more at %d", other, i), rows(x...))
		}
	}
	for _, other := range []string{num(0), text(""), rows()} {
		unread(t, fmt.Sprintf("%q more at the end", other), rows(append(slices.Clone(l), other)...))
	}
}

// P10.1: entries of other shapes, the only one, the first, a middle and the last one.
func TestReadOtherEntries(t *testing.T) {
	right := rows(num(1), text("a"))
	for _, entry := range []string{
		num(0), num(2), text(""), text("a"), rows(), rows(num(1)), rows(text("a")), rows(text("a"), num(1)),
		rows(num(1), num(1)), rows(text("a"), text("a")), rows(num(1), rows()), rows(rows(), text("a")), rows(num(1), rows(text("a"))),
		rows(num(1), text("a"), num(1)), rows(num(1), text("a"), text("")), rows(right), rows(right, right),
	} {
		for _, entries := range [][]string{{entry}, {entry, right, right}, {right, entry, right}, {right, right, entry}} {
			l := fieldsOf(full())
			l[8] = rows(entries...)
			unread(t, fmt.Sprintf("the entries %q", entries), rows(l...))
		}
	}
}

// P10.1: bytes that no node has, though they say the same.
func TestReadOtherBytes(t *testing.T) {
	l := fieldsOf(full(api.Entry{Term: 1, Cmd: "a"}))
	for i, other := range map[int]string{0: "n\x02\x00\x04", 3: "n\x81\x00\x07", 4: "n\x02\x00\x08", 7: "n\x81\x00\x01", 8: "l\x81\x00" + rows(num(1), text("a")), 9: "s\x85\x00state"} {
		x := slices.Clone(l)
		x[i] = other
		unread(t, fmt.Sprintf("%q at %d", other, i), rows(x...))
	}
	unread(t, "another size", "l\x8a\x00"+strings.Join(l, ""))
	unread(t, "more fields told than there are", "l\x0b"+strings.Join(l, ""))
	unread(t, "far more", "l\xff\xff\xff\x7f"+strings.Join(l, ""))
	unread(t, "fewer fields told than there are", "l\x09"+strings.Join(l, ""))
}

// readOrNot: s is read as a message whose bytes it is, or not at all.
func readOrNot(t *testing.T, s string) bool {
	t.Helper()
	m, ok := Read(s)
	if ok && (Bytes(m) != s || plain(m) != s) {
		t.Fatalf("%q is read as %v, whose bytes are %q", s, m, Bytes(m))
	}
	if !ok && !reflect.DeepEqual(m, api.Msg{}) {
		t.Fatalf("%q is read as %v, false", s, m)
	}
	return ok
}

// samples: messages of several shapes.
func samples() []api.Msg {
	return []api.Msg{
		{}, {From: -1, To: -1}, full(), full(api.Entry{}), full(api.Entry{Term: 1, Cmd: "a"}, api.Entry{Term: 300, Cmd: "bcd"}),
		{Kind: 1 << 31, From: 1<<31 - 1, To: 1<<31 - 1, Term: math.MaxUint64, Index: math.MaxUint64, LogTerm: math.MaxUint64, Commit: math.MaxUint64},
		{State: strings.Repeat("s", 130), Entries: []api.Entry{{Cmd: strings.Repeat("c", 200)}}},
	}
}

// P10.1: bytes that are cut anywhere, or have one more, are no message's; with a bit turned they are another one's, or none's.
func TestTurnedBytes(t *testing.T) {
	for _, m := range samples() {
		s := Bytes(m)
		for i := range s {
			unread(t, fmt.Sprint("cut at ", i), s[:i])
			unread(t, fmt.Sprint("from ", i+1), s[i+1:])
			for bit := range 8 {
				b := []byte(s)
				b[i] ^= 1 << bit
				if got, ok := Read(string(b)); ok && alike(got, m) {
					t.Errorf("the bit %d of the byte %d says nothing", bit, i)
				}
				readOrNot(t, string(b))
			}
		}
		for b := range 256 {
			unread(t, "a byte more", s+string([]byte{byte(b)}))
			unread(t, "a byte ahead", string([]byte{byte(b)})+s)
		}
		unread(t, "twice", s+s)
	}
}

// P10.1: any messages there and back, and any bytes.
func TestAnyBytes(t *testing.T) {
	r := rand.New(rand.NewSource(1))
	for i := range 20000 {
		m := anyMsg(r, fmt.Sprint(r.Intn(1000)))
		s := Bytes(m)
		if m.Kind < 0 {
			if s != "" {
				t.Fatalf("%v: %q", m, s)
			}
			continue
		}
		if s != plain(m) {
			t.Fatalf("%v: %q", m, s)
		}
		if got, ok := Read(s); !ok || !alike(got, m) {
			t.Fatalf("%v: read as %v, %t", m, got, ok)
		}
		b := []byte(s)
		for range 1 + i%4 {
			b[r.Intn(len(b))] = byte(r.Intn(256))
		}
		readOrNot(t, string(b))
		for j := range b {
			b[j] = byte(r.Intn(256))
		}
		readOrNot(t, string(b[:r.Intn(len(b))]))
	}
}

// R4: Bytes changes nothing; what Read answers is the caller's own.
func TestBytesOwnMemory(t *testing.T) {
	m := full(api.Entry{Term: 1, Cmd: "a"}, api.Entry{Term: 2, Cmd: "b"})
	s := Bytes(m)
	if !alike(m, full(api.Entry{Term: 1, Cmd: "a"}, api.Entry{Term: 2, Cmd: "b"})) {
		t.Error(m)
	}
	first, _ := Read(s)
	second, _ := Read(s)
	spoil(first)
	if !alike(second, m) {
		t.Error(second)
	}
	m.Entries[0].Cmd = "turned"
	if s != plain(full(api.Entry{Term: 1, Cmd: "a"}, api.Entry{Term: 2, Cmd: "b"})) {
		t.Errorf("%q", s)
	}
}

// FuzzRead: any bytes are a message's, as that is written, or none's.
func FuzzRead(f *testing.F) {
	for _, m := range samples() {
		f.Add(Bytes(m))
	}
	f.Fuzz(func(t *testing.T, s string) {
		readOrNot(t, s)
	})
}

// FuzzBytes: any message there and back.
func FuzzBytes(f *testing.F) {
	f.Add(0, -1, -1, uint64(0), uint64(1), true, "", "", 0)
	f.Add(1<<31, 1<<31-1, 5, uint64(math.MaxUint64), uint64(7), false, "c", "state", 3)
	f.Fuzz(func(t *testing.T, kind, from, to int, a, b uint64, ok bool, cmd, state string, entries int) {
		m := api.Msg{Kind: kind, From: from, To: to, Term: a, Index: b, LogTerm: a ^ b, Commit: a + b, OK: ok, State: state}
		for i := range entries & 7 {
			m.Entries = append(m.Entries, api.Entry{Term: a + uint64(i), Cmd: cmd[:len(cmd)/(i+1)]})
		}
		s := Bytes(m)
		if kind < 0 || from < -1 || to < -1 || len(plain(m)) > api.MaxBytes {
			if s != "" {
				t.Fatalf("%v: %q", m, s)
			}
			return
		}
		if s != plain(m) {
			t.Fatalf("%v: %q", m, s)
		}
		got, read := Read(s)
		if small := kind <= 1<<31 && from < 1<<31 && to < 1<<31; read != small || small && !alike(got, m) {
			t.Fatalf("%v: read as %v, %t", m, got, read)
		}
	})
}
