package disk

import (
	"math"
	"math/rand"
	"strings"
	"testing"

	"vidimus/api"
)

// model: a disk as the chapter's words have it.
type model struct {
	sure, wait string
	down       bool
	any        bool // number of steps
	left       int
}

// step: whether the model does one.
func (m *model) step() bool {
	switch {
	case m.down:
		return false
	case m.any:
		return true
	case m.left > 0:
		m.left--
		return true
	}
	m.down = true
	return false
}

func (m *model) append(s string) api.Errno {
	if !m.step() {
		return api.ErrDown
	}
	m.wait += s
	return api.OK
}

func (m *model) sync() api.Errno {
	if !m.step() {
		return api.ErrDown
	}
	m.sure, m.wait = m.sure+m.wait, ""
	return api.OK
}

func (m *model) swap(s string) api.Errno {
	if !m.step() {
		return api.ErrDown
	}
	m.sure, m.wait = s, ""
	return api.OK
}

func (m *model) fuel(n int) {
	m.any, m.left = n < 0, n
}

func (m *model) crash(keep int) {
	switch {
	case keep < 0:
		m.wait = ""
	case keep < len(m.wait):
		m.wait = m.wait[:keep]
	}
	*m = model{sure: m.sure + m.wait, any: true}
}

// same: a disk and its model are alike.
func same(t *testing.T, d *Disk, m *model) {
	t.Helper()
	want, err := m.sure+m.wait, api.OK
	if m.down {
		want, err = "", api.ErrDown
	}
	if s, e := d.Read(); s != want || e != err {
		t.Fatalf("Read: %d bytes, %.40q, %d; asked for %d: %.40q, %d", len(s), s, e, len(want), want, err)
	}
	if d.Down() != m.down || d.Waits() != len(m.wait) {
		t.Fatalf("Down %v, %d wait; asked for %v, %d", d.Down(), d.Waits(), m.down, len(m.wait))
	}
}

// Which call is done. Two of them stand for Append, and two for Sync, so that most rows have several of these between crashes.
const (
	toAppend = iota
	toAppendMore
	toSync
	toSyncMore
	toSwap
	toFuel
	toCrash
	calls
)

// do: one call of both; n is a limit, or what is kept.
func do(t *testing.T, d *Disk, m *model, call int, s string, n int) {
	t.Helper()
	got, want := api.OK, api.OK
	switch call {
	case toAppend, toAppendMore:
		got, want = d.Append(s), m.append(s)
	case toSync, toSyncMore:
		got, want = d.Sync(), m.sync()
	case toSwap:
		got, want = d.Swap(s), m.swap(s)
	case toFuel:
		d.Fuel(n)
		m.fuel(n)
	case toCrash:
		d.Crash(n)
		m.crash(n)
	}
	if got != want {
		t.Fatalf("call %d of %q: %d; asked for %d", call, s, got, want)
	}
	same(t, d, m)
}

// text: some bytes of all kinds, mostly few, often none.
func text(r *rand.Rand) string {
	b := make([]byte, r.Intn(1<<r.Intn(8)))
	r.Read(b)
	return string(b)
}

// number: a number to be handed in: mostly small, now and then one at a limit of numbers.
func number(r *rand.Rand) int {
	switch r.Intn(10) {
	case 0:
		return -1 - r.Intn(5)
	case 1:
		return math.MaxInt - r.Intn(3)
	case 2:
		return math.MinInt + r.Intn(3)
	}
	return r.Intn(12)
}

// P7.1: calls in any order.
func TestAnyOrder(t *testing.T) {
	r := rand.New(rand.NewSource(7))
	for range 5000 {
		d, m := New(), &model{any: true}
		same(t, d, m)
		for range 60 {
			do(t, d, m, r.Intn(calls), text(r), number(r))
		}
	}
}

// P7.2: behind any row of calls and crashes all bytes begin with what was sure, and are that and a beginning of what waited. What was sure is taken from what the disk itself told, behind a Sync, a Swap or a crash.
func TestSureStays(t *testing.T) {
	r := rand.New(rand.NewSource(72))
	for range 5000 {
		d := New()
		sure, wait := "", ""
		for range 60 {
			s, n := text(r), number(r)
			done := api.OK
			switch r.Intn(calls) {
			case toAppend, toAppendMore:
				if d.Append(s) == api.OK {
					wait += s
				}
				continue
			case toSync, toSyncMore:
				done = d.Sync()
			case toSwap:
				if done = d.Swap(s); done == api.OK {
					sure, wait = s, ""
				}
			case toFuel:
				d.Fuel(n)
				continue
			case toCrash:
				d.Crash(n)
			}
			if done != api.OK {
				continue
			}
			all, err := d.Read()
			if err != api.OK || !strings.HasPrefix(all, sure) || !strings.HasPrefix(sure+wait, all) {
				t.Fatalf("error %d, or not what was sure: %q; it was %q, and %q waited", err, all, sure, wait)
			}
			sure, wait = all, ""
		}
	}
}

// record: what a user of a disk does to write one down, so that it is there surely.
func record(d *Disk, s string) bool {
	return d.Append(s) == api.OK && d.Sync() == api.OK
}

// P7.1, P7.2: a fall at each step of a row of records and swaps, and each tear of what waited then: each record that was answered is there wholly, and behind it no more than a beginning of the next one.
func TestFallAtEachStep(t *testing.T) {
	records := []string{"first;", "second;", "", "third;", "\x00\xff;"}
	for limit := range 3*len(records) + 2 {
		for keep := -1; keep < 9; keep++ {
			d := New()
			d.Fuel(limit)
			answered, next := "", ""
			for i, s := range records {
				if i == 3 && d.Swap(answered) != api.OK {
					break
				}
				if next = s; !record(d, s) {
					break
				}
				answered, next = answered+s, ""
			}
			d.Crash(keep)
			all, err := d.Read()
			if err != api.OK || !strings.HasPrefix(all, answered) || !strings.HasPrefix(answered+next, all) || d.Waits() != 0 {
				t.Fatalf("limit %d, keep %d: %q, %d; %q was answered", limit, keep, all, err, answered)
			}
		}
	}
}

// P7.1, P7.2: calls in any order, on any bytes: each byte of calls tells a call, and how many bytes or steps.
func FuzzDisk(f *testing.F) {
	f.Add([]byte{toAppend + 2*calls, toSync, toAppend + 2*calls, toCrash + calls})
	f.Add([]byte{toFuel + 2*calls, toSwap + 9*calls, toAppend, toAppend + calls, toSync, toCrash})
	f.Fuzz(func(t *testing.T, row []byte) {
		d, m := New(), &model{any: true}
		for i, c := range row {
			n := int(c) / calls
			do(t, d, m, int(c)%calls, strings.Repeat(string(rune('a'+i%26)), n), n-1)
		}
	})
}

// BenchmarkAppend: one byte behind very many must not take longer than behind few.
func BenchmarkAppend(b *testing.B) {
	d := New()
	for b.Loop() {
		d.Append("sixteen letters.")
		d.Sync()
	}
}
