package log

import (
	"fmt"
	"math"
	"math/rand"
	"slices"
	"testing"

	"vidimus/api"
	"vidimus/disk"
)

// model: a log as the chapter's words have it; it never goes down.
type model struct {
	term     uint64
	vote     int
	base     uint64
	baseTerm uint64
	state    string
	entries  []api.Entry
}

func fresh() model { return model{vote: api.Nobody} }

func (m model) last() uint64 { return m.base + uint64(len(m.entries)) }

// within: whether the index is from the base to the last one.
func (m model) within(index uint64) bool { return index >= m.base && index <= m.last() }

func (m model) termAt(index uint64) (uint64, bool) {
	switch {
	case !m.within(index):
		return 0, false
	case index == m.base:
		return m.baseTerm, true
	}
	return m.entries[index-m.base-1].Term, true
}

func (m model) setTerm(term uint64, vote int) (model, api.Errno) {
	if term < m.term || vote < -1 {
		return m, api.ErrArg
	}
	m.term, m.vote = term, vote
	return m, api.OK
}

func (m model) add(behind uint64, entries ...api.Entry) (model, api.Errno) {
	if !m.within(behind) || behind+uint64(len(entries)) < behind {
		return m, api.ErrArg
	}
	m.entries = slices.Concat(m.entries[:behind-m.base], entries)
	return m, api.OK
}

func (m model) compact(index uint64, state string) (model, api.Errno) {
	if !m.within(index) {
		return m, api.ErrArg
	}
	term, _ := m.termAt(index)
	rest := m.entries[index-m.base:]
	m.base, m.baseTerm, m.state, m.entries = index, term, state, rest
	return m, api.OK
}

func (m model) install(index, term uint64, state string) (model, api.Errno) {
	if index < m.base || index == m.base && term != m.baseTerm {
		return m, api.ErrArg
	}
	var rest []api.Entry
	if t, ok := m.termAt(index); ok && t == term {
		rest = m.entries[index-m.base:]
	}
	m.base, m.baseTerm, m.state, m.entries = index, term, state, rest
	return m, api.OK
}

// differs: in what a log isn't its model; "" if in nothing.
func (m model) differs(l *Log) string {
	base, baseTerm, state := l.Base()
	if l.Term() != m.term || l.Vote() != m.vote || base != m.base || baseTerm != m.baseTerm || state != m.state || l.Last() != m.last() {
		return fmt.Sprintf("term %d, vote %d, base %d of term %d, %.40q, last %d; asked for %d, %d, %d of %d, %.40q, %d",
			l.Term(), l.Vote(), base, baseTerm, state, l.Last(), m.term, m.vote, m.base, m.baseTerm, m.state, m.last())
	}
	for i, want := range m.entries {
		index := m.base + 1 + uint64(i)
		e, ok := l.At(index)
		term, known := l.TermAt(index)
		if e != want || !ok || term != want.Term || !known {
			return fmt.Sprintf("at %d: %.40v, %v, term %d, %v; asked for %.40v", index, e, ok, term, known, want)
		}
	}
	if term, ok := l.TermAt(m.base); term != m.baseTerm || !ok {
		return fmt.Sprintf("term at the base: %d, %v; asked for %d", term, ok, m.baseTerm)
	}
	return m.differsBeside(l)
}

// differsBeside: likewise, where there is no entry.
func (m model) differsBeside(l *Log) string {
	for _, index := range []uint64{m.base, 0, m.base - 1, m.last() + 1, m.last() + 2, math.MaxUint64, 1 << 63} {
		inside := index > m.base && index <= m.last()
		if e, ok := l.At(index); !inside && (e != api.Entry{} || ok) {
			return fmt.Sprintf("at %d: %v, %v; asked for none", index, e, ok)
		}
		if term, ok := l.TermAt(index); !m.within(index) && (term != 0 || ok) {
			return fmt.Sprintf("term at %d: %d, %v; asked for none", index, term, ok)
		}
	}
	return ""
}

// is: the log is its model, and is up.
func is(t *testing.T, l *Log, m model) {
	t.Helper()
	if s := m.differs(l); s != "" {
		t.Fatal(s)
	}
	if l.Down() {
		t.Fatal("down")
	}
}

// opened: the log on the disk, that is its model.
func opened(t *testing.T, d *disk.Disk, m model) *Log {
	t.Helper()
	l, err := Open(d)
	if err != api.OK {
		t.Fatalf("Open: %d", err)
	}
	is(t, l, m)
	return l
}

// act: a call of a log and of its model.
type act struct {
	name string
	log  func(*Log) api.Errno
	want func(model) (model, api.Errno)
}

func setTerm(term uint64, vote int) act {
	return act{
		fmt.Sprintf("SetTerm(%d, %d)", term, vote),
		func(l *Log) api.Errno { return l.SetTerm(term, vote) },
		func(m model) (model, api.Errno) { return m.setTerm(term, vote) },
	}
}

func add(behind uint64, entries ...api.Entry) act {
	return act{
		fmt.Sprintf("Add(%d, %.60v)", behind, entries),
		func(l *Log) api.Errno { return l.Add(behind, entries...) },
		func(m model) (model, api.Errno) { return m.add(behind, entries...) },
	}
}

func compact(index uint64, state string) act {
	return act{
		fmt.Sprintf("Compact(%d, %.40q)", index, state),
		func(l *Log) api.Errno { return l.Compact(index, state) },
		func(m model) (model, api.Errno) { return m.compact(index, state) },
	}
}

func install(index, term uint64, state string) act {
	return act{
		fmt.Sprintf("Install(%d, %d, %.40q)", index, term, state),
		func(l *Log) api.Errno { return l.Install(index, term, state) },
		func(m model) (model, api.Errno) { return m.install(index, term, state) },
	}
}

// entry: one of a term.
func entry(term uint64, cmd string) api.Entry {
	return api.Entry{Term: term, Cmd: cmd}
}

// do: the call of both, where no disk goes down: the answers are the same, the log is the model, and all is sure.
func (a act) do(t *testing.T, d *disk.Disk, l *Log, m model) model {
	t.Helper()
	got := a.log(l)
	next, want := a.want(m)
	if got != want {
		t.Fatalf("%s: %d; asked for %d", a.name, got, want)
	}
	if s := next.differs(l); s != "" || l.Down() {
		t.Fatalf("%s: down %v, %s", a.name, l.Down(), s)
	}
	if d.Waits() != 0 {
		t.Fatalf("%s: %d bytes aren't sure", a.name, d.Waits())
	}
	return next
}

// doAll: likewise, all of them, and behind each a crash and an opening, that find the same.
func doAll(t *testing.T, acts ...act) (*disk.Disk, *Log, model) {
	t.Helper()
	d, m := disk.New(), fresh()
	l := opened(t, d, m)
	for _, a := range acts {
		m = a.do(t, d, l, m)
		d.Crash(0)
		opened(t, d, m)
		is(t, l, m)
	}
	return d, l, m
}

// text: some bytes of all kinds, mostly few, often none.
func text(r *rand.Rand) string {
	b := make([]byte, r.Intn(1<<r.Intn(7)))
	r.Read(b)
	return string(b)
}

// near: an index at or about the base and the last one, now and then at a limit of numbers.
func (m model) near(r *rand.Rand) uint64 {
	switch r.Intn(40) {
	case 0:
		return math.MaxUint64 - uint64(r.Intn(3))
	case 1:
		return uint64(r.Intn(3))
	case 2:
		return m.base - 1
	case 3:
		return m.last() + 1 + uint64(r.Intn(3))
	case 4, 5, 6:
		return m.base
	case 7, 8, 9:
		return m.base + uint64(r.Intn(len(m.entries)+1))
	}
	return m.last()
}

// some: entries, mostly few, often none.
func some(r *rand.Rand) []api.Entry {
	var out []api.Entry
	for range r.Intn(4) {
		out = append(out, entry(uint64(r.Intn(3)), text(r)))
	}
	return out
}

// any: a call, mostly one that isn't refused.
func (m model) any(r *rand.Rand) act {
	switch r.Intn(8) {
	case 0, 1:
		return setTerm(m.term+uint64(r.Intn(4)-1), r.Intn(6)-2)
	case 2:
		return compact(m.near(r), text(r))
	case 3:
		index := m.near(r)
		term, _ := m.termAt(index)
		return install(index, term+uint64(r.Intn(4)/3), text(r))
	}
	return add(m.near(r), some(r)...)
}

// P8.1, P0.2: calls in any order, crashes at any step with any tear, and openings, that may be cut short too.
func TestAnyOrder(t *testing.T) {
	r := rand.New(rand.NewSource(8))
	for range 3000 {
		d, m := disk.New(), fresh()
		l := opened(t, d, m)
		for range 40 {
			if r.Intn(4) == 0 {
				d.Fuel(r.Intn(4))
			}
			a := m.any(r)
			got := a.log(l)
			next, want := a.want(m)
			if got == want {
				m = next
				if s := m.differs(l); s != "" || l.Down() || d.Waits() != 0 {
					t.Fatalf("%s: %d, down %v, %d wait, %s", a.name, got, l.Down(), d.Waits(), s)
				}
				continue
			}
			l, m = fell(t, r, d, l, a, got, m, next)
		}
	}
}

// fell: the log answered ErrDown in a call that would have made next of m: it is m still, and stays down; behind the crash it is opened.
func fell(t *testing.T, r *rand.Rand, d *disk.Disk, l *Log, a act, got api.Errno, m, next model) (*Log, model) {
	t.Helper()
	if s := m.differs(l); got != api.ErrDown || !d.Down() || !l.Down() || s != "" {
		t.Fatalf("%s: %d, disk down %v, log down %v, %s", a.name, got, d.Down(), l.Down(), s)
	}
	d.Crash(r.Intn(80) - 1)
	for range r.Intn(3) {
		d.Fuel(r.Intn(2))
		Open(d)
		d.Crash(r.Intn(80) - 1)
	}
	refuses(t, l, m)
	n, err := Open(d)
	if err != api.OK {
		t.Fatalf("Open behind %s: %d", a.name, err)
	}
	was, would := m.differs(n), next.differs(n)
	if was != "" && would != "" {
		t.Fatalf("behind %s: neither as it was: %s; nor as it would have been: %s", a.name, was, would)
	}
	if was == "" {
		return n, m
	}
	return n, next
}

// refuses: a log that went down answers so for all calls, and tells what it told.
func refuses(t *testing.T, l *Log, m model) {
	t.Helper()
	index := m.last()
	term, _ := m.termAt(index)
	acts := []act{
		setTerm(m.term, m.vote), setTerm(m.term+1, 0), setTerm(m.term-1, -2),
		add(index), add(index, entry(1, "x")), add(index + 1),
		compact(index, "S"), compact(index+1, "S"),
		install(index, term, "S"), install(m.base, m.baseTerm+1, "S"), install(m.base-1, 0, "S"),
	}
	for _, a := range acts {
		if got := a.log(l); got != api.ErrDown {
			t.Fatalf("%s of a log that is down: %d", a.name, got)
		}
		if s := m.differs(l); s != "" || !l.Down() {
			t.Fatalf("%s of a log that is down: down %v, %s", a.name, l.Down(), s)
		}
	}
}

// P0, P8.1: any bytes on the disk: they are refused, and left as they are; or a log is there that can be written to and opened again.
func FuzzOpen(f *testing.F) {
	d, l, m := disk.New(), new(Log), fresh()
	l, _ = Open(d)
	for _, a := range []act{setTerm(3, 1), add(0, entry(1, "a"), entry(2, "")), add(1, entry(3, "b")), compact(1, "S"), setTerm(4, -1), add(2, entry(4, "c"))} {
		a.log(l)
		m, _ = a.want(m)
		s, _ := d.Read()
		f.Add(s)
		f.Add(s[:len(s)-1])
	}
	f.Add("")
	f.Add("no log")
	f.Fuzz(func(t *testing.T, s string) {
		d := disk.New()
		d.Swap(s)
		l, err := Open(d)
		if err != api.OK {
			if all, _ := d.Read(); l != nil || err != api.ErrLost || all != s {
				t.Fatalf("%v, %d, %q", l, err, all)
			}
			return
		}
		if err := l.SetTerm(math.MaxUint64, 7); err != api.OK {
			t.Fatal(err)
		}
		d.Crash(0)
		again, err := Open(d)
		if err != api.OK || again.Term() != math.MaxUint64 || again.Vote() != 7 || again.Last() != l.Last() {
			t.Fatal(again, err)
		}
	})
}

// P8.1, P0.2: calls in any order, told by a number, till the disk goes down.
func FuzzLog(f *testing.F) {
	f.Add(int64(1), uint8(3))
	f.Add(int64(8), uint8(0))
	f.Fuzz(func(t *testing.T, seed int64, limit uint8) {
		r := rand.New(rand.NewSource(seed))
		d, m := disk.New(), fresh()
		l := opened(t, d, m)
		d.Fuel(int(limit))
		for range 100 {
			a := m.any(r)
			got := a.log(l)
			next, want := a.want(m)
			if got != want {
				fell(t, r, d, l, a, got, m, next)
				return
			}
			m = next
			is(t, l, m)
		}
	})
}

// BenchmarkAdd: one entry behind very many must not take longer than behind few.
func BenchmarkAdd(b *testing.B) {
	l, _ := Open(disk.New())
	for b.Loop() {
		l.Add(l.Last(), entry(1, "sixteen letters."))
	}
}

// BenchmarkSetTerm: nor must a new term above very many.
func BenchmarkSetTerm(b *testing.B) {
	l, _ := Open(disk.New())
	l.Add(0, make([]api.Entry, 100000)...)
	for b.Loop() {
		l.SetTerm(l.Term()+1, 1)
	}
}
