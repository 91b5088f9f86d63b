package net

import (
	"fmt"
	"math"
	"reflect"
	"slices"
	"testing"
	"time"

	"vidimus/api"
)

// msg: a message to a node, told from others by its term.
func msg(to int, term uint64) api.Msg {
	return api.Msg{Kind: api.Append, To: to, Term: term}
}

// full: a message that has something in each field.
func full(entries ...api.Entry) api.Msg {
	return api.Msg{
		Kind: api.Snap, From: 2, To: 5, Term: 7, Index: 8, LogTerm: 6, Commit: 4,
		OK: true, Entries: entries, State: "state",
	}
}

// alike: the same messages; no entries may be nil or not.
func alike(a, b api.Msg) bool {
	ok := slices.Equal(a.Entries, b.Entries)
	a.Entries, b.Entries = nil, nil
	return ok && reflect.DeepEqual(a, b)
}

// way: of the messages on their way, each as "term:number".
func way(n *Net) string {
	out := ""
	for i := range n.Len() {
		m, number, ok := n.At(i)
		out += fmt.Sprintf("%d:%d ", m.Term, number)
		if !ok {
			out += "none "
		}
	}
	return out
}

// is: just these are on their way.
func is(t *testing.T, what string, n *Net, want string) {
	t.Helper()
	if got := way(n); got != want {
		t.Errorf("%s: on its way: %s; asked for: %s", what, got, want)
	}
}

// of: a net of messages with the terms 11 to 10 + count, to the node 0.
func of(count int) *Net {
	n := New()
	for i := range count {
		n.Put(msg(0, uint64(11+i)))
	}
	return n
}

// P10.1: the chapter's example.
func TestExample(t *testing.T) {
	n := New()
	n.Put(msg(0, 'a'), msg(0, 'b'))
	if m, ok := n.Take(0); !ok || m.Term != 'a' {
		t.Error(m, ok)
	}
	if !n.Twice(0) {
		t.Error("b isn't there")
	}
	is(t, "b, b", n, "98:2 98:3 ")
}

// P10.1: Put of none, of one and of several, behind all others, with numbers from 1.
func TestPut(t *testing.T) {
	n := New()
	is(t, "new", n, "")
	n.Put()
	is(t, "none", n, "")
	n.Put(msg(0, 11))
	is(t, "one", n, "11:1 ")
	n.Put(msg(0, 12), msg(0, 13), msg(0, 14))
	is(t, "three", n, "11:1 12:2 13:3 14:4 ")
	n.Put([]api.Msg{}...)
	is(t, "none at all", n, "11:1 12:2 13:3 14:4 ")
	n.Put(msg(0, 11))
	is(t, "the first one anew", n, "11:1 12:2 13:3 14:4 11:5 ")
	n.Put(api.Msg{})
	is(t, "the zero one", n, "11:1 12:2 13:3 14:4 11:5 0:6 ")
}

// P10.1: a net that New didn't make has nothing either, and its first message has 1.
func TestZeroNet(t *testing.T) {
	var n Net
	is(t, "nothing", &n, "")
	if n.Drop(0) || n.Twice(0) || len(n.To(0)) != 0 {
		t.Error("something is there")
	}
	n.Put(msg(0, 11))
	is(t, "one", &n, "11:1 ")
}

// P10.1, R3, R6: at places where nothing is, all is refused, and has changed nothing.
func TestNoPlace(t *testing.T) {
	for count := range 5 {
		n := of(count)
		before := way(n)
		for _, i := range []int{-1, -2, math.MinInt, count, count + 1, 1 << 40, math.MaxInt} {
			if m, number, ok := n.At(i); ok || number != 0 || !reflect.DeepEqual(m, api.Msg{}) {
				t.Errorf("At %d of %d: %v, %d, %t", i, count, m, number, ok)
			}
			if m, ok := n.Take(i); ok || !reflect.DeepEqual(m, api.Msg{}) {
				t.Errorf("Take %d of %d: %v, %t", i, count, m, ok)
			}
			if n.Twice(i) {
				t.Errorf("Twice %d of %d", i, count)
			}
			if n.Drop(i) {
				t.Errorf("Drop %d of %d", i, count)
			}
			is(t, fmt.Sprintf("%d of %d", i, count), n, before)
		}
		n.Put(msg(0, 99))
		is(t, "the next one", n, before+fmt.Sprintf("99:%d ", count+1))
	}
}

// P10.1: At, Take, Drop and Twice at each place of nets of each length up to 8.
func TestEachPlace(t *testing.T) {
	for count := 1; count <= 8; count++ {
		for i := range count {
			what := fmt.Sprintf("%d of %d", i, count)
			without := ""
			for j := range count {
				if j != i {
					without += fmt.Sprintf("%d:%d ", 11+j, 1+j)
				}
			}
			n := of(count)
			if m, number, ok := n.At(i); !ok || number != uint64(1+i) || !alike(m, msg(0, uint64(11+i))) {
				t.Errorf("At %s: %v, %d, %t", what, m, number, ok)
			}
			is(t, "At "+what, n, way(of(count)))
			if m, ok := n.Take(i); !ok || !alike(m, msg(0, uint64(11+i))) {
				t.Errorf("Take %s: %v, %t", what, m, ok)
			}
			is(t, "Take "+what, n, without)
			n = of(count)
			if !n.Drop(i) {
				t.Errorf("Drop %s: false", what)
			}
			is(t, "Drop "+what, n, without)
			n = of(count)
			if !n.Twice(i) {
				t.Errorf("Twice %s: false", what)
			}
			is(t, "Twice "+what, n, way(of(count))+fmt.Sprintf("%d:%d ", 11+i, 1+count))
		}
	}
}

// P10.1: numbers go on rising, whatever is gone, and none is given again.
func TestNumbers(t *testing.T) {
	n := of(3)
	n.Take(2)
	n.Put(msg(0, 20))
	is(t, "the last one taken", n, "11:1 12:2 20:4 ")
	n.Drop(2)
	n.Put(msg(0, 21))
	is(t, "the last one dropped", n, "11:1 12:2 21:5 ")
	for n.Drop(0) {
	}
	is(t, "none left", n, "")
	n.Put(msg(0, 22))
	is(t, "one behind none", n, "22:6 ")
	n.Take(0)
	n.Put(msg(0, 23), msg(0, 24))
	is(t, "two behind none", n, "23:7 24:8 ")
	n.Twice(7)
	n.Take(-1)
	n.Put(msg(0, 25))
	is(t, "what is refused has no number", n, "23:7 24:8 25:9 ")
}

// P10.1, P10.2: what is there twice has two numbers, and so has that once more; each is taken by itself.
func TestTwice(t *testing.T) {
	n := New()
	first := full(api.Entry{Term: 3, Cmd: "x"}, api.Entry{Term: 4, Cmd: "y"})
	n.Put(first, msg(0, 12))
	n.Twice(0)
	n.Twice(2)
	n.Twice(0)
	is(t, "three times more", n, "7:1 12:2 7:3 7:4 7:5 ")
	n.Drop(0)
	n.Twice(1)
	is(t, "the second told once more", n, "12:2 7:3 7:4 7:5 7:6 ")
	for n.Len() > 1 {
		m, ok := n.Take(1)
		if !ok || !alike(m, first) {
			t.Errorf("%v, %t", m, ok)
		}
		m.Entries[0].Cmd = "turned"
	}
	is(t, "the other one", n, "12:2 ")
}

// P10.1: the places of those to a node, rising; also of a node below 0.
func TestTo(t *testing.T) {
	n := New()
	if l := n.To(0); len(l) != 0 {
		t.Error("of none:", l)
	}
	for i, to := range []int{0, 1, 0, -1, 2, 0, -1, math.MaxInt, math.MinInt, 1} {
		n.Put(api.Msg{From: 3, To: to, Term: uint64(i)})
	}
	tests := []struct {
		node int
		want []int
	}{
		{0, []int{0, 2, 5}},
		{1, []int{1, 9}},
		{2, []int{4}},
		{3, nil},
		{4, nil},
		{-1, []int{3, 6}},
		{-2, nil},
		{math.MaxInt, []int{7}},
		{math.MinInt, []int{8}},
	}
	for _, x := range tests {
		if got := n.To(x.node); !slices.Equal(got, x.want) {
			t.Errorf("To(%d): %v; asked for %v", x.node, got, x.want)
		}
	}
	n.Take(0)
	n.Twice(1)
	if got := n.To(0); !slices.Equal(got, []int{1, 4, 9}) {
		t.Error("behind Take and Twice:", got)
	}
	n.Drop(4)
	if got := n.To(0); !slices.Equal(got, []int{1, 8}) {
		t.Error("behind Drop:", got)
	}
	if got := n.To(-1); !slices.Equal(got, []int{2, 4}) {
		t.Error("behind Drop, to -1:", got)
	}
}

// P10.2: each field of a message is taken as it was put, whatever it is.
func TestAsPut(t *testing.T) {
	many := make([]api.Entry, 1000)
	for i := range many {
		many[i] = api.Entry{Term: uint64(i), Cmd: fmt.Sprint("command ", i)}
	}
	messages := []api.Msg{
		{},
		full(),
		full([]api.Entry{}...),
		full(api.Entry{}),
		full(api.Entry{Term: 1, Cmd: "a"}),
		full(many...),
		{From: -1, To: -1},
		{Kind: -1, From: -2, To: -3},
		{Kind: math.MaxInt, From: math.MaxInt, To: math.MaxInt},
		{Kind: math.MinInt, From: math.MinInt, To: math.MinInt},
		{Term: math.MaxUint64, Index: math.MaxUint64, LogTerm: math.MaxUint64, Commit: math.MaxUint64},
		{OK: true},
		{State: "\x00\xff"},
		{Entries: []api.Entry{{Cmd: "\x00\xff"}, {Term: math.MaxUint64}}},
	}
	n := New()
	n.Put(messages...)
	for i := range messages {
		n.Twice(i)
	}
	for i := range 2 * len(messages) {
		want := messages[i%len(messages)]
		if m, number, ok := n.At(0); !ok || number != uint64(1+i) || !alike(m, want) {
			t.Errorf("At: %v, %d, %t; asked for %v", m, number, ok, want)
		}
		if m, ok := n.Take(0); !ok || !alike(m, want) {
			t.Errorf("Take: %v, %t; asked for %v", m, ok, want)
		}
	}
	is(t, "none left", n, "")
}

// R4: neither what was put, nor what was told, nor what was taken leads to what is on its way.
func TestOwnMemory(t *testing.T) {
	entries := []api.Entry{{Term: 1, Cmd: "a"}, {Term: 2, Cmd: "b"}, {Term: 3, Cmd: "c"}}
	want := full(slices.Clone(entries)...)
	list := []api.Msg{full(entries...), full(entries[:2]...)}
	n := New()
	n.Put(list...)
	check := func(what string) {
		t.Helper()
		for i := range n.Len() {
			m, _, _ := n.At(i)
			m.Entries = m.Entries[:2]
			if w := full(want.Entries[:2]...); !alike(m, w) {
				t.Errorf("%s: at %d stands %v", what, i, m)
			}
		}
	}
	entries[0].Cmd, entries[1].Term = "turned", 99
	list[0].State, list[1].Entries = "turned", nil
	check("put")
	n.Twice(0)
	told, _, _ := n.At(0)
	told.Entries[0].Cmd, told.Entries[1].Term = "turned", 99
	_ = append(told.Entries[:1], api.Entry{Cmd: "turned"})
	check("told")
	second, _, _ := n.At(2)
	second.Entries[1].Cmd = "turned"
	check("the second told")
	taken, _ := n.Take(0)
	if !alike(taken, want) {
		t.Error(taken)
	}
	taken.Entries[0].Cmd = "turned"
	check("taken")
	if last, _ := n.Take(1); !alike(last, want) {
		t.Error(last)
	}
	places := n.To(5)
	places[0] = 7
	if got := n.To(5); !slices.Equal(got, []int{0}) {
		t.Error(got)
	}
}

// R4: what is handed in is not changed.
func TestPutChangesNothing(t *testing.T) {
	list := []api.Msg{full(api.Entry{Term: 1, Cmd: "a"}), msg(1, 2)}
	n := New()
	n.Put(list...)
	n.Twice(0)
	n.Drop(0)
	if m, _ := n.Take(1); len(m.Entries) != 1 {
		t.Error(m)
	} else {
		m.Entries[0] = api.Entry{}
	}
	want := []api.Msg{full(api.Entry{Term: 1, Cmd: "a"}), msg(1, 2)}
	if !slices.EqualFunc(list, want, alike) {
		t.Error(list)
	}
}

// R2: of no net, nothing.
func TestNil(t *testing.T) {
	var n *Net
	n.Put()
	n.Put(msg(0, 1), msg(0, 2))
	if n.Len() != 0 {
		t.Error("Len:", n.Len())
	}
	for _, i := range []int{-1, 0, 1, math.MaxInt, math.MinInt} {
		if m, number, ok := n.At(i); ok || number != 0 || !reflect.DeepEqual(m, api.Msg{}) {
			t.Errorf("At %d: %v, %d, %t", i, m, number, ok)
		}
		if m, ok := n.Take(i); ok || !reflect.DeepEqual(m, api.Msg{}) {
			t.Errorf("Take %d: %v, %t", i, m, ok)
		}
		if n.Twice(i) || n.Drop(i) || len(n.To(i)) != 0 {
			t.Errorf("%d is there", i)
		}
	}
}

// R7: nets know nothing of one another.
func TestTwoNets(t *testing.T) {
	a, b := New(), New()
	a.Put(msg(0, 11), msg(0, 12))
	b.Put(msg(0, 21))
	a.Drop(0)
	b.Twice(0)
	is(t, "the first", a, "12:2 ")
	is(t, "the second", b, "21:1 21:2 ")
	m, _ := b.Take(0)
	a.Put(m)
	is(t, "from the second to the first", a, "12:2 21:3 ")
	is(t, "the second", b, "21:2 ")
}

// P0: many messages are taken soon, from the front, from the end, and from the middle.
func TestMany(t *testing.T) {
	const count = 200000
	places := []func(length int) int{
		func(int) int { return 0 },
		func(length int) int { return length - 1 },
		func(length int) int { return min(1, length-1) },
		func(length int) int { return max(0, length-2) },
	}
	for _, place := range places {
		start, n := time.Now(), of(count)
		for n.Len() > 0 {
			if _, ok := n.Take(place(n.Len())); !ok {
				t.Fatal("none there")
			}
		}
		n.Put(msg(0, 1))
		is(t, "one more", n, fmt.Sprintf("1:%d ", count+1))
		if d := time.Since(start); d > 4*time.Second {
			t.Error("it takes", d)
		}
	}
}

// P0: what is gone is not kept, whatever stands where it stood.
func TestGone(t *testing.T) {
	for count := 1; count <= 8; count++ {
		for i := range count {
			n, kept := of(count), 0
			room := n.way
			n.Take(i)
			for _, p := range room {
				if p.msg != nil {
					kept++
				}
			}
			if kept != count-1 {
				t.Errorf("behind Take %d of %d there are %d", i, count, kept)
			}
		}
	}
}

// P0: a queue that never ends keeps no more than what is on its way.
func TestQueue(t *testing.T) {
	n := of(3)
	for i := range 100000 {
		n.Put(msg(0, uint64(14+i)))
		if m, ok := n.Take(0); !ok || m.Term != uint64(11+i) {
			t.Fatal(m, ok)
		}
	}
	if cap(n.way) > 100 {
		t.Error("room for", cap(n.way))
	}
	is(t, "the last three", n, "100011:100001 100012:100002 100013:100003 ")
}
