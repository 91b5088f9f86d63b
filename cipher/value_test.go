package cipher

import (
	"math"
	"strings"
	"testing"

	"vidimus/api"
	"vidimus/codec"
)

// P15.1: values as nodes that stand here, and back.
func TestValueKnown(t *testing.T) {
	for _, c := range []struct {
		v    api.Val
		want string
	}{
		{null(), "l\x01n\x00"},
		{number(0), "l\x02n\x01\x01n\x00"},
		{number(7), "l\x02n\x01\x01n\x01\x07"},
		{number(258), "l\x02n\x01\x01n\x02\x01\x02"},
		{number(-1), "l\x02n\x01\x01n\x08\xff\xff\xff\xff\xff\xff\xff\xff"},
		{number(math.MinInt64), "l\x02n\x01\x01n\x08\x80\x00\x00\x00\x00\x00\x00\x00"},
		{number(math.MaxInt64), "l\x02n\x01\x01n\x08\x7f\xff\xff\xff\xff\xff\xff\xff"},
		{word(""), "l\x02n\x01\x02s\x00"},
		{word("seven"), "l\x02n\x01\x02s\x05seven"},
		{word(strings.Repeat("a", 200)), "l\x02n\x01\x02s\xc8\x01" + strings.Repeat("a", 200)},
	} {
		n, ok := Value(c.v)
		if got, _ := codec.Write(n); got != c.want || !ok {
			t.Errorf("%s: %q, %t; asked for %q", name(c.v), got, ok, c.want)
		}
		n, _ = codec.Read(c.want)
		if v, ok := Of(n); v != c.v || !ok {
			t.Errorf("%s: read as %s, %t", name(c.v), name(v), ok)
		}
	}
}

// P15.1: each value is a node of its own, and that node it again.
func TestValues(t *testing.T) {
	var nodes []api.Node
	for _, v := range values() {
		n, ok := Value(v)
		if got, written := codec.Write(n); got != plainValue(v) || !written || !ok {
			t.Errorf("%s: %s, %t", name(v), name(n), ok)
		}
		if back, ok := Of(n); back != v || !ok {
			t.Errorf("%s: read as %s, %t", name(v), name(back), ok)
		}
		for _, other := range nodes {
			if codec.Same(n, other) {
				t.Errorf("%s: the node of another one", name(v))
			}
		}
		nodes = append(nodes, n)
	}
}

// P15.1: what is no value is no node.
func TestNoValues(t *testing.T) {
	for _, v := range noValues() {
		if n, ok := Value(v); ok || !codec.Same(n, api.Node{}) || n.Kids != nil {
			t.Errorf("%s: %s, %t", name(v), name(n), ok)
		}
	}
}

// R4: what a value is as a node is the caller's own.
func TestValueMemory(t *testing.T) {
	for _, v := range values() {
		n, _ := Value(v)
		for i := range n.Kids {
			n.Kids[i] = codec.S("x")
		}
		again, _ := Value(v)
		if got, _ := codec.Write(again); got != plainValue(v) {
			t.Errorf("%s: %s", name(v), name(again))
		}
	}
}

// plainOf: the value that n stands for, by the words of the chapter.
func plainOf(n api.Node) (api.Val, bool) {
	if n.Kind != api.List || n.N != 0 || n.S != "" || len(n.Kids) == 0 || len(n.Kids) > 2 {
		return api.Val{}, false
	}
	kind := n.Kids[0]
	if kind.Kind != api.Num || kind.S != "" || len(kind.Kids) > 0 {
		return api.Val{}, false
	}
	if len(n.Kids) == 1 {
		return api.Val{}, kind.N == 0
	}
	it := n.Kids[1]
	if len(it.Kids) > 0 {
		return api.Val{}, false
	}
	switch {
	case kind.N == 1 && it.Kind == api.Num && it.S == "":
		return number(int64(it.N)), true
	case kind.N == 2 && it.Kind == api.Str && it.N == 0 && len(it.S) <= 200:
		return word(it.S), true
	}
	return api.Val{}, false
}

// someNodes: right ones and others, each field with something in it, or without.
func someNodes(kids ...[]api.Node) []api.Node {
	var out []api.Node
	for _, kind := range []int{api.Num, api.Str, api.List, -1, 3} {
		for _, n := range []uint64{0, 1, 2, 3, 1 << 32, 1<<32 + 1, 1<<32 + 2, 1 << 63, math.MaxUint64} {
			for _, s := range []string{"", "a", strings.Repeat("a", 200), strings.Repeat("a", 201)} {
				for _, l := range kids {
					out = append(out, api.Node{Kind: kind, N: n, S: s, Kids: l})
				}
			}
		}
	}
	return out
}

// P15.1: what stands for no value isn't read, and what stands for one is.
func TestOf(t *testing.T) {
	l := [][]api.Node{nil, {}, {codec.N(0)}, {codec.N(1), codec.N(5)}}
	kids := someNodes(l...)
	for _, it := range kids {
		l = append(l, []api.Node{it}, []api.Node{codec.N(0), it}, []api.Node{codec.N(1), it}, []api.Node{codec.N(2), it},
			[]api.Node{it, codec.N(5)}, []api.Node{it, codec.S("a")}, []api.Node{codec.N(1), codec.N(5), it})
	}
	right := 0
	for _, kids := range l {
		for _, n := range append(someNodes(kids), codec.L(kids...)) {
			want, asked := plainOf(n)
			if got, ok := Of(n); got != want || ok != asked {
				t.Fatalf("%s: %s, %t; asked for %s, %t", name(n), name(got), ok, name(want), asked)
			}
			if asked {
				right++
			}
		}
	}
	if right < 20 {
		t.Errorf("only %d of these stand for a value", right)
	}
}

// P0: of a list within itself, and of one with very many kids, there is an answer.
func TestOfStrange(t *testing.T) {
	loop := api.Node{Kind: api.List, Kids: []api.Node{codec.N(1), {Kind: api.List}}}
	loop.Kids[1].Kids = loop.Kids
	own := api.Node{Kind: api.List, Kids: make([]api.Node, 1)}
	own.Kids[0] = own
	for _, n := range []api.Node{loop, own, {Kind: api.List, Kids: make([]api.Node, 1<<20)}} {
		if v, ok := Of(n); ok || v != (api.Val{}) {
			t.Errorf("%s, %t", name(v), ok)
		}
	}
}
