package log

import (
	"math"
	"slices"
	"strings"
	"testing"
	"unsafe"

	"vidimus/api"
	"vidimus/disk"
)

// right: a call answered what the chapter asks for.
func right(t *testing.T, got, want api.Errno) {
	t.Helper()
	if got != want {
		t.Errorf("error %d; asked for %d", got, want)
	}
}

const most = math.MaxUint64

// P8.1: the chapter's example.
func TestExample(t *testing.T) {
	a, b, c := entry(0, "a"), entry(0, "b"), entry(0, "c")
	_, l, _ := doAll(t, add(0, a, b), add(1, c))
	first, _ := l.At(1)
	second, _ := l.At(2)
	if first != a || second != c || l.Last() != 2 {
		t.Errorf("%v, %v, last %d", first, second, l.Last())
	}
}

// P8.1: a disk without bytes, new or that nobody made: term 0, vote Nobody, base 0 of term 0 with no state, no entries; and opening it leaves it so.
func TestNew(t *testing.T) {
	for _, d := range []*disk.Disk{disk.New(), new(disk.Disk)} {
		for range 3 {
			l, err := Open(d)
			right(t, err, api.OK)
			if base, term, state := l.Base(); base != 0 || term != 0 || state != "" || l.Term() != 0 || l.Vote() != -1 || l.Last() != 0 || l.Down() {
				t.Errorf("base %d of %d, %q, term %d, vote %d, last %d, down %v", base, term, state, l.Term(), l.Vote(), l.Last(), l.Down())
			}
			is(t, l, fresh())
			d.Crash(0)
		}
	}
}

// P8.1, R2: a nil log, whatever is asked for.
func TestNil(t *testing.T) {
	var none *Log
	for _, n := range []uint64{0, 1, 2, most - 1, most} {
		right(t, none.SetTerm(n, int(n)), api.ErrDown)
		right(t, none.SetTerm(n, api.Nobody), api.ErrDown)
		right(t, none.Add(n), api.ErrDown)
		right(t, none.Add(n, entry(n, "x")), api.ErrDown)
		right(t, none.Compact(n, "x"), api.ErrDown)
		right(t, none.Install(n, n, "x"), api.ErrDown)
		if e, ok := none.At(n); e != (api.Entry{}) || ok {
			t.Errorf("at %d: %v, %v", n, e, ok)
		}
		if term, ok := none.TermAt(n); term != 0 || ok {
			t.Errorf("term at %d: %d, %v", n, term, ok)
		}
	}
	base, term, state := none.Base()
	if base != 0 || term != 0 || state != "" || none.Term() != 0 || none.Vote() != api.Nobody || none.Last() != 0 || !none.Down() {
		t.Errorf("base %d of %d, %q, term %d, vote %d, last %d, down %v", base, term, state, none.Term(), none.Vote(), none.Last(), none.Down())
	}
}

// P0: a log that nobody opened has no disk, and is down.
func TestUnopened(t *testing.T) {
	l := new(Log)
	if !l.Down() {
		t.Error("up")
	}
	right(t, l.SetTerm(1, 1), api.ErrDown)
	right(t, l.Add(0, entry(1, "x")), api.ErrDown)
	right(t, l.Compact(0, "x"), api.ErrDown)
	right(t, l.Install(1, 1, "x"), api.ErrDown)
	if l.Term() != 0 || l.Last() != 0 {
		t.Errorf("term %d, last %d", l.Term(), l.Last())
	}
}

// refused: there is no log, but this error.
func refused(t *testing.T, d *disk.Disk, want api.Errno) {
	t.Helper()
	if l, err := Open(d); l != nil || err != want {
		t.Errorf("%v, error %d; asked for none, %d", l, err, want)
	}
}

// downed: a disk with these bytes, that is down for want of a step.
func downed(t *testing.T, s string) *disk.Disk {
	t.Helper()
	d := disk.New()
	right(t, d.Swap(s), api.OK)
	d.Fuel(0)
	right(t, d.Sync(), api.ErrDown)
	return d
}

// P8.1, R1: a nil disk, and one that is down, whatever stands on it; behind the crash what stands there counts.
func TestOpenDown(t *testing.T) {
	refused(t, nil, api.ErrDown)
	whole, _, m := doAll(t, setTerm(2, 1), add(0, entry(1, "a")))
	s, _ := whole.Read()
	for range 2 {
		refused(t, downed(t, ""), api.ErrDown)
		refused(t, downed(t, s), api.ErrDown)
		refused(t, downed(t, "no log"), api.ErrDown)
	}
	d := downed(t, s)
	d.Crash(0)
	opened(t, d, m)
	d = downed(t, "no log")
	d.Crash(0)
	refused(t, d, api.ErrLost)
}

// several: a disk with each kind of what a log leaves: all anew, and changes behind it.
func several(t *testing.T) (string, model) {
	t.Helper()
	d, l, m := disk.New(), new(Log), fresh()
	l = opened(t, d, m)
	for _, a := range []act{
		add(0, entry(1, "a"), entry(1, strings.Repeat("b", 300)), entry(2, "c")), compact(1, "state"),
		setTerm(2, 1), add(2, entry(2, "d"), entry(2, "")), setTerm(3, -1), add(4),
	} {
		m = a.do(t, d, l, m)
	}
	s, _ := d.Read()
	return s, m
}

// P8.1, R3: bytes that no log left are told so, alone and behind a log's, and stay where they are, without a step.
func TestStrangeBytes(t *testing.T) {
	s, _ := several(t)
	strange := []string{
		"n", "no log", "\x00", "\xff", strings.Repeat("\x00", 8), strings.Repeat("\x00", 1000), strings.Repeat("\xff", 1000), "l\x00", "\n",
		"term and vote, and the like", strings.Repeat("many letters ", 1000), "wtvaTVA", "\x01\x02\x03", "ä", s[1:], s[1:20],
	}
	for _, x := range strange {
		for _, all := range []string{x, s + x} {
			d := disk.New()
			right(t, d.Swap(all), api.OK)
			d.Fuel(0)
			refused(t, d, api.ErrLost)
			refused(t, d, api.ErrLost)
			if got, err := d.Read(); got != all || err != api.OK {
				t.Errorf("%.20q became %.20q, %d", all, got, err)
			}
		}
	}
}

// P8.1: of a log's bytes, none of which are torn, one is another one, or two have changed places: that is found, also where all was written anew just now.
func TestAlteredBytes(t *testing.T) {
	s, m := several(t)
	for _, all := range []string{s, whole(content{1, 2, 3, 4, "state", []api.Entry{entry(5, "some"), entry(6, "more")}})} {
		for i := range len(all) {
			for _, flip := range []byte{1, 2, 16, 128, 255} {
				b := []byte(all)
				b[i] ^= flip
				d := disk.New()
				right(t, d.Swap(string(b)), api.OK)
				refused(t, d, api.ErrLost)
			}
			if i > 0 && all[i] != all[i-1] {
				d := disk.New()
				right(t, d.Swap(all[:i-1]+all[i:i+1]+all[i-1:i]+all[i+1:]), api.OK)
				refused(t, d, api.ErrLost)
			}
		}
	}
	d := disk.New()
	right(t, d.Swap(s), api.OK)
	opened(t, d, m)
}

// P8.1, P0: a log's bytes, cut anywhere, or with some of them left out, or there twice: they are refused, or tell a log that can be written to and opened.
func TestCutBytes(t *testing.T) {
	s, _ := several(t)
	for i := range len(s) + 1 {
		for _, j := range []int{0, i / 2, i - 1, i, i + 1, i + 17, len(s)} {
			d := disk.New()
			right(t, d.Swap(s[:i]+s[min(max(j, 0), len(s)):]), api.OK)
			l, err := Open(d)
			if err == api.ErrLost && l == nil {
				continue
			}
			right(t, err, api.OK)
			right(t, l.Add(l.Last(), entry(9, "more")), api.OK)
			last := l.Last()
			d.Crash(0)
			l, err = Open(d)
			right(t, err, api.OK)
			if e, ok := l.At(last); e != entry(9, "more") || !ok {
				t.Fatalf("%d, %d: %v, %v", i, j, e, ok)
			}
		}
	}
}

// P8.1: bytes that no log left in which all sums hold: changes that the log would have refused, others than there are, ones that are too short or too long, and a beginning that isn't all.
func TestStrangeRecords(t *testing.T) {
	number := func(n uint64) string {
		var w writer
		w.number(n)
		return w.String()
	}
	m := content{term: 2, vote: 1, base: 3, baseTerm: 1, state: "S", entries: []api.Entry{entry(2, "a")}}
	begin := whole(m)
	body := begin[headLen+numLen : len(begin)-numLen]
	full := whole(content{base: most, entries: []api.Entry{entry(2, "a")}})
	strange := []string{
		record(voted, body),
		record(added, body),
		record(voted, voteBody(3, 1)),
		record(added, addBody(0, nil)),
		begin + record(voted, voteBody(1, 1)),
		begin + record(voted, voteBody(2, -2)),
		begin + record(voted, voteBody(3, 1)+"x"),
		begin + record(voted, number(3)),
		begin + record(voted, ""),
		begin + record(added, addBody(2, nil)),
		begin + record(added, addBody(5, nil)),
		begin + record(added, ""),
		begin + record(added, number(3)+"x"),
		begin + record(added, number(3)+number(1)+number(2)+"x"),
		begin + record(added, number(3)+number(1)+number(most)+"x"),
		begin + record('x', ""),
		begin + record(wrote, body),
		begin + begin[:len(begin)-1],
		begin[:len(begin)-1],
		begin[:len(begin)-numLen],
		begin[:headLen+numLen],
		begin[:headLen],
		record(wrote, body+"x"),
		record(wrote, body[:len(body)-1]),
		record(wrote, ""),
		record(wrote, number(0)+number(most-1)+body[16:]),
		record(wrote, number(0)+number(1<<63)+body[16:]),
		full,
	}
	for _, s := range strange {
		d := disk.New()
		right(t, d.Swap(s), api.OK)
		refused(t, d, api.ErrLost)
	}
	d := disk.New()
	right(t, d.Swap(begin+record(voted, voteBody(2, 7))+record(added, addBody(4, nil))), api.OK)
	opened(t, d, model{2, 7, 3, 1, "S", m.entries})
}

// P8.1: terms below the log's, at it and above it; votes of Nobody, below it and any other ones.
func TestSetTerm(t *testing.T) {
	doAll(t,
		setTerm(0, -1), setTerm(0, 0), setTerm(0, -2), setTerm(0, 5),
		setTerm(2, 0), setTerm(1, 0), setTerm(0, -1), setTerm(2, 3), setTerm(2, -1), setTerm(2, -2), setTerm(3, math.MinInt),
		setTerm(3, math.MaxInt), setTerm(2, math.MaxInt), setTerm(3, -1),
		setTerm(1<<63, 1), setTerm(most-1, 1), setTerm(most, 2), setTerm(most-1, 2), setTerm(most, -1), setTerm(0, 1), setTerm(most, -2),
	)
}

// P8.1: behind the base, the last index, in the midst, below the base and past the last index, with entries and without.
func TestAdd(t *testing.T) {
	a, b, c, x := entry(1, "a"), entry(1, "b"), entry(2, "c"), entry(3, "x")
	for behind := range uint64(8) {
		for _, more := range [][]api.Entry{nil, {x}, {x, x}, {x, x, x, x, x}} {
			doAll(t, add(behind, more...), add(behind, more...))
			doAll(t, add(0, a, b, c), add(behind, more...), add(3, x), add(behind, more...))
			doAll(t, install(2, 1, "S"), add(2, a, b, c), add(behind, more...), add(behind, more...), add(behind+1, a))
		}
	}
	doAll(t, add(0), add(0, a), add(0), add(1), add(most), add(most, a), add(1<<63, a), add(0, b))
}

// P8.1: an entry's term is whatever it is, also a lesser one than those ahead and a greater one than the log's.
func TestAnyTerms(t *testing.T) {
	doAll(t, add(0, entry(most, "a"), entry(0, "b"), entry(7, "c")), add(3, entry(1, "d")), compact(1, "S"), compact(2, "S"), install(3, 7, "T"), install(9, 0, "T"))
}

// P8.1: at the base, at the last index, in between, below the base and past the last index.
func TestCompact(t *testing.T) {
	a, b, c := entry(1, "a"), entry(2, "b"), entry(2, "c")
	for index := range uint64(7) {
		doAll(t, compact(index, "S"))
		doAll(t, add(0, a, b, c), compact(index, "S"), compact(index, "T"), add(3, a), compact(4, ""))
		doAll(t, add(0, a, b, c), compact(2, "S"), compact(index, "T"), add(2, c, c, c), compact(index, "U"))
		doAll(t, install(2, 5, "S"), compact(index, "T"), add(2, a, b), compact(index, "U"))
	}
	doAll(t, add(0, a), compact(most, "S"), compact(1<<63, "S"), compact(1, "S"), compact(0, "T"))
}

// P8.1: at the base with its term and with another one; above it, where the term there is that one, where it is another one, and where there is none; below it.
func TestInstall(t *testing.T) {
	a, b, c := entry(1, "a"), entry(2, "b"), entry(2, "c")
	for index := range uint64(8) {
		for term := range uint64(4) {
			doAll(t, install(index, term, "S"), install(index, term, "T"), add(index, a))
			doAll(t, add(0, a, b, c), install(index, term, "S"), add(index, b), install(index+1, 2, "T"))
			doAll(t, add(0, a, b, c), compact(2, "S"), install(index, term, "T"), install(index, term, ""))
			doAll(t, install(3, 2, "S"), add(3, a, b, c), install(index, term, "T"), add(6, a))
		}
	}
	doAll(t, add(0, a, b, c), install(0, 0, "S"), install(0, 1, "T"), install(1, 1, "U"), install(1, 1, "V"), install(1, 0, "W"))
}

// P8.1, R6: indexes and terms up to the greatest number; behind it there is no index for an entry.
func TestGreatestNumbers(t *testing.T) {
	a, b := entry(most, "a"), entry(most-1, "b")
	doAll(t,
		setTerm(most, 0), install(most-2, most, "S"), add(most-2, a, b, a), add(most-3), add(most-2, a, b), add(most, a), add(most),
		compact(most-1, "T"), install(most, most, "U"), add(most, a), add(most), add(most-1), install(most, most-1, "V"), install(most, most, "V"), compact(most, ""),
	)
	doAll(t, install(most-1, 0, ""), add(most-1, a), add(most, b), add(most-1, b), add(most-1, a, a), install(most, most-1, ""), add(0), compact(0, ""), install(0, 0, ""))
	doAll(t, add(0, a, b), install(most, most, "S"), add(most, a, b), compact(most, "T"))
	doAll(t, install(1<<63, 1<<63, "S"), add(1<<63, a, b), compact(1<<63+1, "T"), install(1<<63+2, most-1, "U"))
}

// P8.1: states and commands of no byte, of any bytes, and long ones, past what codec's records hold too.
func TestTexts(t *testing.T) {
	every := make([]byte, 256)
	for i := range every {
		every[i] = byte(i)
	}
	s, _ := several(t)
	for _, x := range []string{"", "\x00", "\xff", "ä", string(every), s, s[:len(s)-1], strings.Repeat("\xfa", 70000), strings.Repeat("z", api.MaxBytes+1)} {
		d, m := disk.New(), fresh()
		l := opened(t, d, m)
		for _, a := range []act{
			add(0, entry(1, x)), add(1, entry(2, x), entry(2, ""), entry(2, x)), add(2, entry(3, x)),
			compact(1, x), add(3, entry(3, x)), install(2, 2, x), install(9, 9, x), add(9, entry(9, x)),
		} {
			m = a.do(t, d, l, m)
			d.Crash(0)
			opened(t, d, m)
		}
	}
}

// P8.1, R3: what is refused changes nothing, on the disk neither, and takes no step of it.
func TestRefusedChangesNothing(t *testing.T) {
	d, l, m := doAll(t, setTerm(5, 1), add(0, entry(1, "a"), entry(2, "b"), entry(3, "c")), compact(1, "S"))
	s, _ := d.Read()
	d.Fuel(0)
	for _, a := range []act{
		setTerm(4, 1), setTerm(0, -1), setTerm(5, -2), setTerm(9, math.MinInt),
		add(0), add(0, entry(9, "x")), add(4), add(4, entry(9, "x")), add(most), add(most, entry(9, "x")),
		compact(0, "T"), compact(4, "T"), compact(most, "T"),
		install(0, 0, "T"), install(0, 9, "T"), install(1, 0, "T"), install(1, 2, "T"),
	} {
		right(t, a.log(l), api.ErrArg)
		is(t, l, m)
	}
	if got, err := d.Read(); got != s || err != api.OK || d.Waits() != 0 {
		t.Errorf("%d, %d bytes wait, %q; it was %q", err, d.Waits(), got, s)
	}
	d.Fuel(-1)
	m = setTerm(6, 2).do(t, d, l, m)
	opened(t, d, m)
}

// P8.1: of a disk that went down at somebody else's hands, all calls of the log answer so, from then on, ahead of what is wrong with them.
func TestDownByOthers(t *testing.T) {
	d, l, m := doAll(t, setTerm(5, 1), add(0, entry(1, "a")))
	d.Fuel(0)
	is(t, l, m)
	right(t, d.Sync(), api.ErrDown)
	refuses(t, l, m)
	d.Crash(0)
	refuses(t, l, m)
	opened(t, d, m)
}

// P8.1: each call of them is the one that first answers so; then so do all, whatever becomes of the disk.
func TestDownFromThenOn(t *testing.T) {
	first := []act{
		setTerm(5, 1), setTerm(6, 1), setTerm(4, 1), add(1), add(1, entry(5, "x")), add(0, entry(5, "x")), add(7),
		compact(0, "S"), compact(1, "S"), compact(7, "S"), install(0, 0, "S"), install(1, 5, "S"), install(0, 7, "S"),
	}
	for _, a := range first {
		for _, s := range []string{"", "no log", "as it was"} {
			d, l, m := doAll(t, setTerm(5, 1), add(0, entry(1, "a")))
			d.Fuel(0)
			right(t, d.Sync(), api.ErrDown)
			right(t, a.log(l), api.ErrDown)
			d.Crash(0)
			if s != "as it was" {
				right(t, d.Swap(s), api.OK)
			}
			refuses(t, l, m)
		}
	}
}

// P8.1: a log that told that it is down stays so, also if the disk comes up again.
func TestDownTold(t *testing.T) {
	d, l, m := doAll(t, add(0, entry(1, "a")))
	d.Fuel(0)
	right(t, d.Sync(), api.ErrDown)
	if !l.Down() {
		t.Error("up")
	}
	d.Crash(0)
	if !l.Down() {
		t.Error("up again")
	}
	refuses(t, l, m)
}

// P8.1: likewise where the disk goes down in the midst of a call, and comes up ahead of anything else that the log is asked.
func TestDownAtOnce(t *testing.T) {
	for _, row := range before() {
		for i := range tried(fresh()) {
			for steps := 0; ; steps++ {
				d, l, m := doAll(t, row...)
				m = add(m.last(), entry(1, "more")).do(t, d, l, m)
				d.Fuel(steps)
				err := tried(m)[i].log(l)
				d.Crash(steps)
				if err == api.OK {
					break
				}
				refuses(t, l, m)
			}
		}
	}
}

// before: rows of calls behind which a call is tried: on a new disk; where all was written anew just now; where there is room behind that; and where there is hardly any.
func before() [][]act {
	a, b, c := entry(1, "a"), entry(2, "bb"), entry(2, strings.Repeat("c", 300))
	return [][]act{
		nil,
		{add(0, a, b, c)},
		{setTerm(2, 0), add(0, a, c, b), compact(1, "state")},
		{setTerm(1, 0), add(0, c, b, a), setTerm(2, 0), add(1, b, b)},
		{install(4, 2, strings.Repeat("S", 500)), add(4, a, b), add(6, c)},
	}
}

// tried: calls to be tried behind such a row, that aren't refused.
func tried(m model) []act {
	x, y := entry(3, "x"), entry(4, strings.Repeat("y", 90))
	term, _ := m.termAt(m.last())
	return []act{
		setTerm(m.term, m.vote), setTerm(m.term, 3), setTerm(m.term+1, -1), setTerm(most, math.MaxInt),
		add(m.base), add(m.base, x), add(m.last()), add(m.last(), x), add(m.last(), x, y, x), add((m.base+m.last())/2, y, x),
		compact(m.base, "new"), compact(m.last(), ""), compact((m.base+m.last())/2, strings.Repeat("new", 100)),
		install(m.base, m.baseTerm, "new"), install(m.last(), term, ""), install(m.last()+1, term, "new"), install(m.last(), term+m.last()-m.base, "new"),
	}
}

// fallen: a call at which the disk goes down behind so many steps: the log on it and its model, and whether it did go down.
func fallen(t *testing.T, row []act, i, steps int) (d *disk.Disk, l *Log, m, next model, down bool) {
	t.Helper()
	d, l, m = doAll(t, row...)
	if len(row) > 0 {
		// one more, so that not all changes are the first one behind an opening
		m = add(m.last(), entry(1, "more")).do(t, d, l, m)
	}
	a := tried(m)[i]
	d.Fuel(steps)
	got := a.log(l)
	next, want := a.want(m)
	right(t, want, api.OK)
	if got == api.OK {
		is(t, l, next)
		return d, l, next, next, false
	}
	right(t, got, api.ErrDown)
	refuses(t, l, m)
	return d, l, m, next, true
}

// waits: how many bytes a crash may keep.
func waits(d *disk.Disk) []int {
	out := []int{-1, math.MaxInt}
	for keep := range d.Waits() + 2 {
		out = append(out, keep)
	}
	return out
}

// P8.1, P0.2: a fall at each step of each call, and each tear of what waited: the log is as it was or as it would have been, and as it is if the call was answered; what is written then is read again behind another crash.
func TestFallAtEachStep(t *testing.T) {
	for _, row := range before() {
		for i := range tried(fresh()) {
			for steps, down := 0, true; down; steps++ {
				var probe *disk.Disk
				probe, _, _, _, down = fallen(t, row, i, steps)
				for _, keep := range waits(probe) {
					d, l, m, next, _ := fallen(t, row, i, steps)
					d.Crash(keep)
					n := either(t, d, m, next)
					if down {
						refuses(t, l, m)
					}
					writes(t, d, n, m, next)
				}
			}
		}
	}
}

// either: the log on the disk, that is the one model or the other.
func either(t *testing.T, d *disk.Disk, m, next model) *Log {
	t.Helper()
	l, err := Open(d)
	if err != api.OK {
		t.Fatalf("Open: %d", err)
	}
	was, would := m.differs(l), next.differs(l)
	if was != "" && would != "" {
		t.Fatalf("neither as it was: %s; nor as it would have been: %s", was, would)
	}
	return l
}

// writes: changes of the log, the one model or the other, are there behind crashes, one behind each and one behind all.
func writes(t *testing.T, d *disk.Disk, l *Log, m, next model) {
	t.Helper()
	if m.differs(l) != "" {
		m = next
	}
	for range 3 {
		m = add(m.last(), entry(7, "behind a torn end")).do(t, d, l, m)
		m = add(m.last(), entry(7, "and more")).do(t, d, l, m)
		d.Crash(0)
		l = opened(t, d, m)
	}
}

// P8.1, P0.2: a disk that goes down at each step of an opening, behind a fall of each call with each tear, again and again: Open answers so, and no log; behind the last crash all is as it was or would have been.
func TestFallWhileOpening(t *testing.T) {
	for _, row := range before() {
		for i := range tried(fresh()) {
			for keep := -1; keep < 60; keep++ {
				d, _, m, next, _ := fallen(t, row, i, 1)
				d.Crash(keep)
				for steps := 0; ; steps++ {
					d.Fuel(steps)
					l, err := Open(d)
					if err == api.OK {
						break
					}
					if l != nil || err != api.ErrDown || !d.Down() {
						t.Fatalf("%v, %d, down %v", l, err, d.Down())
					}
					d.Crash(keep)
				}
				d.Crash(0)
				writes(t, d, either(t, d, m, next), m, next)
			}
		}
	}
}

// P8.1, P0.2: a log's bytes that wait still are sure once the log is open; if the disk goes down ahead of that, there is no log.
func TestOpenMakesSure(t *testing.T) {
	s, m := several(t)
	for _, torn := range []string{"", record(voted, voteBody(9, 9))[:30]} {
		d := disk.New()
		right(t, d.Append(s+torn), api.OK)
		l := opened(t, d, m)
		if d.Waits() != 0 {
			t.Errorf("%d bytes wait", d.Waits())
		}
		d.Crash(0)
		is(t, l, m)
		opened(t, d, m)
		d = disk.New()
		right(t, d.Append(s+torn), api.OK)
		d.Fuel(0)
		refused(t, d, api.ErrDown)
		d.Crash(len(s))
		opened(t, d, m)
	}
}

// P8.1: changes behind a torn end, whatever was torn: of one step each, so that the next fall is ahead of all, and of several.
func TestBehindTornEnd(t *testing.T) {
	for _, limit := range []int{1, 2, 3} {
		for keep := range 60 {
			d := disk.New()
			m := fresh()
			for i := range 12 {
				l := opened(t, d, m)
				a := add(m.last(), entry(uint64(i), strings.Repeat("x", i)))
				m = a.do(t, d, l, m)
				d.Fuel(limit)
				for {
					a = add(m.last(), entry(9, "torn"))
					if a.log(l) != api.OK {
						break
					}
					m, _ = a.want(m)
				}
				next, _ := a.want(m)
				d.Crash(keep)
				if l = either(t, d, m, next); m.differs(l) != "" {
					m = next
				}
			}
			opened(t, d, m)
		}
	}
}

// P8.1, R4: a log keeps none of the memory that is handed in.
func TestKeepsNothing(t *testing.T) {
	b := []byte("some bytes")
	s := unsafe.String(&b[0], len(b))
	d, l, m := disk.New(), new(Log), fresh()
	l = opened(t, d, m)
	list := []api.Entry{entry(1, s), entry(2, s)}
	right(t, l.Add(0, list...), api.OK)
	right(t, l.Add(2, list...), api.OK)
	if !slices.Equal(list, []api.Entry{entry(1, "some bytes"), entry(2, "some bytes")}) {
		t.Errorf("what was handed in became %v", list)
	}
	right(t, l.Compact(1, s), api.OK)
	list[1] = entry(7, "other")
	clear(b)
	m = model{0, -1, 1, 1, "some bytes", []api.Entry{entry(2, "some bytes"), entry(1, "some bytes"), entry(2, "some bytes")}}
	is(t, l, m)
	opened(t, d, m)
	copy(b, "some bytes")
	right(t, l.Install(9, 9, s), api.OK)
	clear(b)
	is(t, l, model{0, -1, 9, 9, "some bytes", nil})
}

// P8.1, R4: what was answered stays so, whatever is done later.
func TestAnswersStay(t *testing.T) {
	_, l, _ := doAll(t, add(0, entry(1, "a"), entry(2, "b")))
	a, _ := l.At(1)
	b, _ := l.At(2)
	right(t, l.Add(0, entry(3, "c"), entry(4, "d")), api.OK)
	right(t, l.Compact(1, "S"), api.OK)
	_, _, state := l.Base()
	right(t, l.Install(5, 5, "T"), api.OK)
	if a != entry(1, "a") || b != entry(2, "b") || state != "S" {
		t.Errorf("%v, %v, %q", a, b, state)
	}
}

// R7: two logs don't know one another, and of the same calls have the same bytes on their disks.
func TestTwoLogs(t *testing.T) {
	c, d := disk.New(), disk.New()
	k, l := opened(t, c, fresh()), opened(t, d, fresh())
	right(t, k.Add(0, entry(1, "a")), api.OK)
	is(t, l, fresh())
	right(t, l.SetTerm(2, 2), api.OK)
	is(t, k, model{vote: -1, entries: []api.Entry{entry(1, "a")}})
	first, _ := several(t)
	second, _ := several(t)
	if first != second {
		t.Errorf("%q, %q", first, second)
	}
}

// What stands on the disk isn't written again for each change: few bytes are appended to many.
func TestDiskIsAppendedTo(t *testing.T) {
	d, l, m := doAll(t, add(0, entry(1, strings.Repeat("many", 1000))), add(1, entry(1, "a")))
	for i := range uint64(30) {
		s, _ := d.Read()
		m = add(m.last(), entry(i, "b")).do(t, d, l, m)
		m = setTerm(i, 1).do(t, d, l, m)
		if all, _ := d.Read(); !strings.HasPrefix(all, s) || len(all) > len(s)+200 {
			t.Fatalf("%d bytes became %d other ones", len(s), len(all))
		}
	}
}

// What was given up doesn't stay on the disk for ever: many changes of few bytes leave few.
func TestDiskStaysSmall(t *testing.T) {
	d := disk.New()
	l := opened(t, d, fresh())
	for i := range uint64(5000) {
		right(t, l.SetTerm(i, int(i)), api.OK)
		right(t, l.Add(i/100, entry(i, "a"), entry(i, "b")), api.OK)
		if i%100 == 99 {
			right(t, l.Compact(i/100+1, "state"), api.OK)
		}
		if s, _ := d.Read(); len(s) > 1000 {
			t.Fatalf("%d bytes", len(s))
		}
	}
}
