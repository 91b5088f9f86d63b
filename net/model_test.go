package net

import (
	"fmt"
	"math/rand"
	"slices"
	"testing"

	"vidimus/api"
)

// numbered: a message and its number, in a plain list.
type numbered struct {
	msg    api.Msg
	number uint64
}

// model: a net as the chapter's words have it.
type model struct {
	list []numbered
	next uint64
	// How often each message, told by its State, was put or told twice, and taken or dropped.
	given, gone map[string]int
}

func newModel() *model {
	return &model{next: 1, given: map[string]int{}, gone: map[string]int{}}
}

// own: a copy of a message.
func own(m api.Msg) api.Msg {
	m.Entries = slices.Clone(m.Entries)
	return m
}

func (o *model) put(l ...api.Msg) {
	for _, m := range l {
		o.list = append(o.list, numbered{own(m), o.next})
		o.given[m.State]++
		o.next++
	}
}

func (o *model) at(i int) (api.Msg, uint64, bool) {
	if i < 0 || i >= len(o.list) {
		return api.Msg{}, 0, false
	}
	return own(o.list[i].msg), o.list[i].number, true
}

func (o *model) take(i int) (api.Msg, bool) {
	m, _, ok := o.at(i)
	if ok {
		rest := []numbered{}
		for j, x := range o.list {
			if j != i {
				rest = append(rest, x)
			}
		}
		o.list = rest
		o.gone[m.State]++
	}
	return m, ok
}

func (o *model) twice(i int) bool {
	m, _, ok := o.at(i)
	if ok {
		o.put(m)
	}
	return ok
}

func (o *model) to(node int) []int {
	var out []int
	for i, x := range o.list {
		if x.msg.To == node {
			out = append(out, i)
		}
	}
	return out
}

// anyMsg: a message of any fields, told from all others by its State.
func anyMsg(r *rand.Rand, name string) api.Msg {
	m := api.Msg{
		Kind: r.Intn(7) - 1, From: r.Intn(5) - 1, To: r.Intn(5) - 1,
		Term: r.Uint64(), Index: r.Uint64() >> r.Intn(64), LogTerm: uint64(r.Intn(3)), Commit: uint64(r.Intn(300)),
		OK: r.Intn(2) == 0, State: name,
	}
	for range max(0, r.Intn(6)-2) {
		m.Entries = append(m.Entries, api.Entry{Term: uint64(r.Intn(9)), Cmd: fmt.Sprint(r.Intn(1000))})
	}
	return m
}

// spoil: what a caller may do with the entries that it had handed in, or was told.
func spoil(m api.Msg) {
	for i := range m.Entries {
		m.Entries[i] = api.Entry{Term: 77, Cmd: "spoiled"}
	}
	_ = append(m.Entries, api.Entry{Cmd: "spoiled"})
}

// same: a net and its model are alike.
func same(t *testing.T, n *Net, o *model) {
	t.Helper()
	if n.Len() != len(o.list) {
		t.Fatalf("%d on its way, not %d", n.Len(), len(o.list))
	}
	for i := -1; i <= len(o.list); i++ {
		m, number, ok := n.At(i)
		wm, wn, wok := o.at(i)
		if !alike(m, wm) || number != wn || ok != wok {
			t.Fatalf("At(%d): %v, %d, %t; asked for %v, %d, %t", i, m, number, ok, wm, wn, wok)
		}
		spoil(m)
	}
	for node := -2; node < 5; node++ {
		if got, want := n.To(node), o.to(node); !slices.Equal(got, want) {
			t.Fatalf("To(%d): %v; asked for %v", node, got, want)
		}
	}
}

// step: one call of a net and its model, which answer alike.
func step(t *testing.T, r *rand.Rand, n *Net, o *model, fresh *int) {
	t.Helper()
	i := r.Intn(len(o.list)+3) - 1
	switch r.Intn(9) {
	case 0, 1, 2:
		var l []api.Msg
		for range r.Intn(4) {
			*fresh++
			l = append(l, anyMsg(r, fmt.Sprint("message ", *fresh)))
		}
		o.put(l...)
		n.Put(l...)
		for _, m := range l {
			spoil(m)
		}
	case 3, 4, 5:
		m, ok := n.Take(i)
		if wm, wok := o.take(i); !alike(m, wm) || ok != wok {
			t.Fatalf("Take(%d): %v, %t; asked for %v, %t", i, m, ok, wm, wok)
		}
		spoil(m)
	case 6:
		if got, want := n.Twice(i), o.twice(i); got != want {
			t.Fatalf("Twice(%d): %t", i, got)
		}
	case 7:
		got := n.Drop(i)
		if _, want := o.take(i); got != want {
			t.Fatalf("Drop(%d): %t", i, got)
		}
	case 8:
		_, _, ok := o.at(i)
		if m, _, got := n.At(i); got != ok {
			t.Fatalf("At(%d): %v, %t", i, m, got)
		}
	}
}

// P10.1, P10.2: any calls in any order, held against a plain list.
func TestModel(t *testing.T) {
	for seed := range int64(200) {
		r := rand.New(rand.NewSource(seed))
		n, o, fresh := New(), newModel(), 0
		for range 300 {
			step(t, r, n, o, &fresh)
			same(t, n, o)
		}
		for n.Len() > 0 {
			i := r.Intn(n.Len())
			m, ok := n.Take(i)
			if wm, wok := o.take(i); !alike(m, wm) || ok != wok {
				t.Fatalf("at last, Take(%d): %v, %t; asked for %v, %t", i, m, ok, wm, wok)
			}
		}
		for name, count := range o.given {
			if o.gone[name] != count {
				t.Fatalf("%s: there %d times, gone %d times", name, count, o.gone[name])
			}
		}
	}
}

// P10.2: each message is taken as often as it was put or told twice, and none else is.
func TestAsOften(t *testing.T) {
	r := rand.New(rand.NewSource(1))
	n, given, taken := New(), map[string]int{}, map[string]int{}
	take := func(i int) {
		if m, ok := n.Take(i); ok {
			taken[m.State]++
		}
	}
	for i := range 2000 {
		name := fmt.Sprint(i)
		n.Put(anyMsg(r, name))
		given[name]++
		if at := r.Intn(n.Len()); r.Intn(2) == 0 && n.Twice(at) {
			m, _, _ := n.At(at)
			given[m.State]++
		}
		take(r.Intn(n.Len() + 2))
	}
	for n.Len() > 0 {
		take(r.Intn(n.Len()))
	}
	if fmt.Sprint(taken) != fmt.Sprint(given) {
		t.Error("taken otherwise than given")
	}
}

// FuzzNet: each byte is a call, held against the plain list.
func FuzzNet(f *testing.F) {
	f.Add([]byte("\x00\x01\x02\x03\x04\x05\x06\x07"))
	f.Add([]byte{0, 0, 8, 2, 10, 1, 9, 3, 3, 3})
	f.Fuzz(func(t *testing.T, calls []byte) {
		n, o := New(), newModel()
		for at, c := range calls[:min(200, len(calls))] {
			i := int(c/4)%16 - 1
			switch c % 4 {
			case 0:
				m := api.Msg{To: i, State: fmt.Sprint(at), Entries: []api.Entry{{Term: uint64(c), Cmd: "c"}}}
				o.put(m)
				n.Put(m)
				spoil(m)
			case 1:
				m, ok := n.Take(i)
				if wm, wok := o.take(i); !alike(m, wm) || ok != wok {
					t.Fatalf("Take(%d): %v, %t", i, m, ok)
				}
			case 2:
				if n.Twice(i) != o.twice(i) {
					t.Fatalf("Twice(%d)", i)
				}
			case 3:
				got := n.Drop(i)
				if _, want := o.take(i); got != want {
					t.Fatalf("Drop(%d)", i)
				}
			}
		}
		same(t, n, o)
	})
}
