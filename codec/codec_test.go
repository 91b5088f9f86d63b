package codec

import (
	"math"
	"math/rand"
	"slices"
	"strings"
	"testing"
	"time"

	"vidimus/api"
)

// listOf: a list of these very kids, not of copies.
func listOf(kids ...api.Node) api.Node {
	return api.Node{Kind: api.List, Kids: kids}
}

// nested: lists within lists, as deep, around inner, which has the depth 1.
func nested(inner api.Node, depth int) api.Node {
	for range depth - 1 {
		inner = listOf(inner)
	}
	return inner
}

// bytesOf: the bytes of n, by the chapter's words, with no regard to whether it is right or how many there are.
func bytesOf(n api.Node) string {
	switch n.Kind {
	case api.Num:
		var digits []byte
		for x := n.N; x > 0; x /= 256 {
			digits = append([]byte{byte(x % 256)}, digits...)
		}
		return "n" + sizeOf(len(digits)) + string(digits)
	case api.Str:
		return "s" + sizeOf(len(n.S)) + n.S
	}
	var out strings.Builder
	out.WriteString("l" + sizeOf(len(n.Kids)))
	for _, kid := range n.Kids {
		out.WriteString(bytesOf(kid))
	}
	return out.String()
}

func sizeOf(size int) string {
	if size < 128 {
		return string([]byte{byte(size)})
	}
	return string([]byte{byte(size%128 + 128)}) + sizeOf(size/128)
}

// both: n is right, has these bytes, and these bytes are it.
func both(t *testing.T, what string, n api.Node, want string) {
	t.Helper()
	if !Right(n) {
		t.Errorf("%s: not right", what)
	}
	if got, ok := Write(n); !ok || got != want {
		t.Errorf("%s: written as %d bytes, %t: %.40q; asked for %d: %.40q", what, len(got), ok, got, len(want), want)
	}
	if got, ok := Read(want); !ok || !equal(got, n) || !Same(got, n) {
		t.Errorf("%s: read otherwise, %t", what, ok)
	}
}

// equal: as Same, by plain comparison.
func equal(a, b api.Node) bool {
	return a.Kind == b.Kind && a.N == b.N && a.S == b.S && slices.EqualFunc(a.Kids, b.Kids, equal)
}

// refused: n isn't written; whether it is right otherwise.
func refused(t *testing.T, what string, n api.Node, right bool) {
	t.Helper()
	if got, ok := Write(n); ok || got != "" {
		t.Errorf("%s: written as %d bytes, %t", what, len(got), ok)
	}
	if got := Right(n); got != right {
		t.Errorf("%s: right: %t", what, got)
	}
}

// unread: s is no node's bytes.
func unread(t *testing.T, what, s string) {
	t.Helper()
	if n, ok := Read(s); ok || n.Kind != 0 || n.N != 0 || n.S != "" || n.Kids != nil {
		t.Errorf("%s: read as a node of kind %d, %t", what, n.Kind, ok)
	}
}

// P3.1: numbers, of each count of bytes the least and the greatest, and texts and lists, by bytes that stand here.
func TestKnown(t *testing.T) {
	tests := []struct {
		n    api.Node
		want string
	}{
		{N(0), "n\x00"},
		{N(1), "n\x01\x01"},
		{N(255), "n\x01\xff"},
		{N(256), "n\x02\x01\x00"},
		{N(258), "n\x02\x01\x02"},
		{N(1<<16 - 1), "n\x02\xff\xff"},
		{N(1 << 16), "n\x03\x01\x00\x00"},
		{N(0x0102030405), "n\x05\x01\x02\x03\x04\x05"},
		{N(1<<56 - 1), "n\x07\xff\xff\xff\xff\xff\xff\xff"},
		{N(1 << 56), "n\x08\x01\x00\x00\x00\x00\x00\x00\x00"},
		{N(0xfedcba9876543210), "n\x08\xfe\xdc\xba\x98\x76\x54\x32\x10"},
		{N(math.MaxUint64), "n\x08\xff\xff\xff\xff\xff\xff\xff\xff"},
		{S(""), "s\x00"},
		{S("a"), "s\x01a"},
		{S("\x00"), "s\x01\x00"},
		{S("é\xff"), "s\x03\xc3\xa9\xff"},
		{S(strings.Repeat("a", 127)), "s\x7f" + strings.Repeat("a", 127)},
		{S(strings.Repeat("a", 128)), "s\x80\x01" + strings.Repeat("a", 128)},
		{S(strings.Repeat("a", 300)), "s\xac\x02" + strings.Repeat("a", 300)},
		{S(strings.Repeat("a", 16383)), "s\xff\x7f" + strings.Repeat("a", 16383)},
		{S(strings.Repeat("a", 16384)), "s\x80\x80\x01" + strings.Repeat("a", 16384)},
		{L(), "l\x00"},
		{listOf(), "l\x00"},
		{listOf([]api.Node{}...), "l\x00"},
		{L(L()), "l\x01l\x00"},
		{L(N(0)), "l\x01n\x00"},
		{L(N(258), S("a")), "l\x02n\x02\x01\x02s\x01a"},
		{L(L(N(1), L()), S("x"), N(2)), "l\x03l\x02n\x01\x01l\x00s\x01xn\x01\x02"},
		{L(make([]api.Node, 127)...), "l\x7f" + strings.Repeat("n\x00", 127)},
		{L(make([]api.Node, 128)...), "l\x80\x01" + strings.Repeat("n\x00", 128)},
		{L(make([]api.Node, 16384)...), "l\x80\x80\x01" + strings.Repeat("n\x00", 16384)},
	}
	for _, x := range tests {
		both(t, x.want[:min(10, len(x.want))], x.n, x.want)
	}
}

// P3.1: numbers around each power of 2, and texts and lists around each size's count of bytes.
func TestCounts(t *testing.T) {
	for bit := range 64 {
		for d := range uint64(5) {
			n := N(uint64(1)<<bit + d - 2)
			both(t, "a number", n, bytesOf(n))
		}
	}
	for _, count := range []int{0, 1, 2, 126, 127, 128, 129, 255, 256, 1000, 16382, 16383, 16384, 16385, 1<<21 - 1, 1 << 21, 1<<21 + 1} {
		both(t, "a text", S(strings.Repeat("x", count)), "s"+sizeOf(count)+strings.Repeat("x", count))
		both(t, "a list", listOf(make([]api.Node, count)...), "l"+sizeOf(count)+strings.Repeat("n\x00", count))
	}
}

// P3.1: the makers.
func TestMakers(t *testing.T) {
	for _, x := range []uint64{0, 1, 258, math.MaxUint64} {
		if n := N(x); n.Kind != api.Num || n.N != x || n.S != "" || n.Kids != nil {
			t.Errorf("%d: %v", x, n)
		}
	}
	for _, x := range []string{"", "a", "\xff\x00", strings.Repeat("a", 1000)} {
		if n := S(x); n.Kind != api.Str || n.N != 0 || n.S != x || n.Kids != nil {
			t.Errorf("%q: %v", x, n)
		}
	}
	for _, x := range [][]api.Node{nil, {}, {{}}, {N(1), S("a"), listOf(N(2))}, {{Kind: 7, N: 1, S: "a", Kids: []api.Node{N(3)}}}} {
		if n := L(x...); n.Kind != api.List || n.N != 0 || n.S != "" || !slices.EqualFunc(n.Kids, x, equal) {
			t.Errorf("%v: %v", x, n)
		}
	}
}

// P3.1: depths, of the ends of which each is of each kind.
func TestDepth(t *testing.T) {
	for name, inner := range map[string]api.Node{"number": N(7), "text": S("a"), "nil list": {Kind: api.List}, "empty list": {Kind: api.List, Kids: []api.Node{}}} {
		for depth := 1; depth <= 20; depth++ {
			n := nested(inner, depth)
			both(t, name, n, strings.Repeat("l\x01", depth-1)+bytesOf(inner))
		}
		for _, depth := range []int{21, 22, 40, 1000, 1 << 16} {
			refused(t, name, nested(inner, depth), false)
			unread(t, name, strings.Repeat("l\x01", depth-1)+bytesOf(inner))
		}
		beside := listOf(N(1), nested(inner, 19), S("x"), nested(inner, 20))
		refused(t, name, beside, false)
		unread(t, name, bytesOf(beside))
		beside.Kids = beside.Kids[:3]
		both(t, name, beside, bytesOf(beside))
	}
}

// P3.1: records of MaxBytes, and of one more.
func TestMaxBytes(t *testing.T) {
	fit := func(what string, n api.Node, more int) {
		t.Helper()
		s := bytesOf(n)
		if len(s) != api.MaxBytes+more {
			t.Fatalf("%s: %d bytes", what, len(s))
		}
		if more == 0 {
			both(t, what, n, s)
			return
		}
		refused(t, what, n, true)
		unread(t, what, s)
	}
	for more := range 2 {
		fit("a text", S(strings.Repeat("a", api.MaxBytes-5+more)), more)
		fit("a text in a list", listOf(S(strings.Repeat("a", api.MaxBytes-7+more))), more)
		fit("a text in lists", nested(S(strings.Repeat("a", api.MaxBytes-5-38+more)), 20), more)
		fit("two texts", listOf(S(strings.Repeat("a", 1<<23)), S(strings.Repeat("a", 1<<23-12+more))), more)
		kids := make([]api.Node, api.MaxBytes/2-3)
		kids[0] = N(1)
		kids[len(kids)-1] = S(strings.Repeat("a", more))
		fit("a list", listOf(kids...), more)
	}
	refused(t, "a text", S(strings.Repeat("a", 1<<24)), true)
	refused(t, "a text", S(strings.Repeat("a", 1<<25)), true)
	refused(t, "a list", listOf(make([]api.Node, 1<<24)...), true)
}

// P3.1: nodes that aren't right: of other kinds, and with fields that aren't theirs, wherever they stand.
func TestNotRight(t *testing.T) {
	kids := []api.Node{{}}
	for _, n := range []api.Node{
		{Kind: -1}, {Kind: 3}, {Kind: 7}, {Kind: math.MaxInt}, {Kind: math.MinInt}, {Kind: 256}, {Kind: 1 << 32},
		{Kind: 3, N: 1}, {Kind: 3, S: "a"}, {Kind: 3, Kids: kids},
		{Kind: api.Num, S: "a"}, {Kind: api.Num, N: 1, S: "a"}, {Kind: api.Num, Kids: kids}, {Kind: api.Num, N: 1, Kids: kids},
		{Kind: api.Str, N: 1}, {Kind: api.Str, N: 1, S: "a"}, {Kind: api.Str, Kids: kids}, {Kind: api.Str, S: "a", Kids: kids},
		{Kind: api.List, N: 1}, {Kind: api.List, S: "a"}, {Kind: api.List, N: 1, Kids: kids}, {Kind: api.List, S: "a", Kids: kids},
	} {
		refused(t, "alone", n, false)
		refused(t, "in a list", listOf(n), false)
		refused(t, "in a list, first", listOf(n, N(1)), false)
		refused(t, "in a list, last", listOf(N(1), listOf(), S("a"), n), false)
		refused(t, "far down", nested(n, 20), false)
	}
}

// P3.1: an empty list may be nil or not, where kids aren't the node's as well.
func TestEmptyKids(t *testing.T) {
	both(t, "a number", api.Node{Kind: api.Num, N: 1, Kids: []api.Node{}}, "n\x01\x01")
	both(t, "a text", api.Node{Kind: api.Str, S: "a", Kids: []api.Node{}}, "s\x01a")
	both(t, "a list", api.Node{Kind: api.List, Kids: []api.Node{}}, "l\x00")
	both(t, "lists", listOf(listOf([]api.Node{}...), api.Node{Kind: api.List}), "l\x02l\x00l\x00")
}

// P3.1: bytes that are none of a node.
func TestNotRead(t *testing.T) {
	for _, s := range []string{
		"", "\x00", "x\x00", "N\x00", "S\x00", "L\x00", "m\x00", "\xee\x00", " n\x00", "1", "n", "s", "l",
		"n\x01\x00", "n\x02\x00\x01", "n\x08\x00\xff\xff\xff\xff\xff\xff\xff", "n\x09\x01\x00\x00\x00\x00\x00\x00\x00\x00", "n\x09123456789", "n\x7f" + strings.Repeat("1", 127),
		"n\x01", "n\x02\x01", "n\x08\x01\x01\x01\x01\x01\x01\x01", "s\x01", "s\x02a", "s\x80\x01" + strings.Repeat("a", 127), "l\x01", "l\x01l", "l\x02n\x00", "l\x02n\x00l", "l\x02n\x00l\x01",
		"n\x00\x00", "n\x00n\x00", "n\x01\x01\x01", "s\x00a", "s\x01ab", "s\x01as\x01a", "l\x00\x00", "l\x00n\x00", "l\x01n\x00n\x00",
		"l\x01x\x00", "l\x01n\x01\x00", "l\x02n\x00s\x80\x00",
	} {
		unread(t, s[:min(10, len(s))], s)
	}
}

// P3.1: sizes whose last byte is 0, of any length, and sizes that are too long, among them those that go on to a small number modulo 2^32 or 2^64.
func TestNotSizes(t *testing.T) {
	for _, c := range []string{"n", "s", "l"} {
		for _, behind := range []string{"", "\x01", "a", "n\x00", strings.Repeat("n\x00", 128), strings.Repeat("a", 1000)} {
			for length := range 20 {
				for _, d := range []string{"", "\x81", "\x82", "\xff"} {
					start := c + d + strings.Repeat("\x80", length)
					if len(start) > 1 {
						unread(t, "a 0 at the end", start+"\x00"+behind)
						unread(t, "no end", start)
					}
					for last := 1; last < 128 && length > 4; last *= 2 {
						unread(t, "too long", start+string([]byte{byte(last)})+behind)
					}
				}
			}
		}
	}
}

// P3.1: a record that says that there were many kids or bytes, and has few, is refused, and soon.
func TestSizesThatLie(t *testing.T) {
	soon(t, "lies", func() {
		for _, size := range []string{"\x7f", "\xff\x7f", "\xff\xff\x7f", "\x80\x80\x80\x08", "\xff\xff\xff\x7f"} {
			for depth := range 20 {
				unread(t, "a list", strings.Repeat("l"+size, depth)+"l"+size)
				unread(t, "a list of some", strings.Repeat("l"+size+"n\x00", depth)+"l"+size)
				unread(t, "a text", strings.Repeat("l\x01", depth)+"s"+size+"a")
				unread(t, "a number", strings.Repeat("l\x01", depth)+"n"+size+"a")
			}
		}
	})
}

// all: the nodes with at most so many bytes, of the letters of a few numbers and texts.
func all(most int) []api.Node {
	kinds := make([][]api.Node, most+1) // by count of bytes
	for _, n := range []api.Node{N(0), N(1), N('n'), N(256), N(0x7302), S(""), S("s"), S("\x00"), S("\x01"), S("n\x00"), S("l\x01"), S("s\x01s"), S("l\x00\x00")} {
		if count := len(bytesOf(n)); count <= most {
			kinds[count] = append(kinds[count], n)
		}
	}
	// rows: so many kids, with so many bytes in all.
	var rows func(count, bytes int) [][]api.Node
	rows = func(count, bytes int) [][]api.Node {
		if count == 0 && bytes == 0 {
			return [][]api.Node{nil}
		}
		var out [][]api.Node
		for b := 2; count > 0 && b <= bytes; b++ {
			for _, row := range rows(count-1, bytes-b) {
				for _, n := range kinds[b] {
					out = append(out, append(slices.Clone(row), n))
				}
			}
		}
		return out
	}
	var out []api.Node
	for b := 2; b <= most; b++ {
		for count := 0; 2*count <= b-2; count++ {
			for _, row := range rows(count, b-2) {
				kinds[b] = append(kinds[b], listOf(row...))
			}
		}
		out = append(out, kinds[b]...)
	}
	return out
}

// P3.2: unlike nodes have unlike bytes, and no bytes begin other nodes' bytes.
func TestUnlike(t *testing.T) {
	nodes := all(10)
	for bit := range 64 {
		nodes = append(nodes, N(1<<bit|1<<40), S(strings.Repeat("n\x00", 100*bit+50)))
	}
	texts := make([]string, len(nodes))
	for i, n := range nodes {
		s, ok := Write(n)
		if !ok || s != bytesOf(n) {
			t.Fatalf("%v: %q, %t", n, s, ok)
		}
		texts[i] = s
		back, ok := Read(s)
		if !ok || !equal(back, n) {
			t.Fatalf("%q: %v, %t", s, back, ok)
		}
	}
	// What begins another one stands just ahead of one that it begins.
	slices.Sort(texts)
	for i := 1; i < len(texts); i++ {
		if strings.HasPrefix(texts[i], texts[i-1]) {
			t.Errorf("%q begins %q", texts[i-1], texts[i])
		}
	}
	t.Log(len(nodes), "nodes")
}

// P3.1: of all short texts of some letters just those are read that are a node's bytes.
func TestAllShort(t *testing.T) {
	letters := "nsl\x00\x01\x02\x80\x81"
	read := 0
	var try func(s string)
	try = func(s string) {
		n, ok := Read(s)
		if ok {
			read++
		}
		if want, known := slowRead(s); ok != known || ok && !equal(n, want) {
			t.Errorf("%q: %v, %t; asked for %v, %t", s, n, ok, want, known)
		}
		if got, wrote := Write(n); ok && (!wrote || got != s || !Right(n)) {
			t.Errorf("%q: written as %q, %t", s, got, wrote)
		}
		if len(s) < 6 {
			for i := range letters {
				try(s + letters[i:i+1])
			}
		}
	}
	try("")
	if read < 100 {
		t.Errorf("%d texts were read", read)
	}
}

// slowRead: the node whose bytes are all of s, sought among those that could have so many bytes: for short ones.
func slowRead(s string) (api.Node, bool) {
	if len(s) < 2 {
		return api.Node{}, false
	}
	size, rest := int(s[1]), s[2:]
	switch {
	case size >= 128: // what is so long isn't short
	case s[0] == 'n' && size == len(rest) && size <= 8 && (size == 0 || rest[0] > 0):
		n := uint64(0)
		for _, b := range []byte(rest) {
			n = 256*n + uint64(b)
		}
		return N(n), true
	case s[0] == 's' && size == len(rest):
		return S(rest), true
	case s[0] == 'l' && size == 0 && rest == "":
		return listOf(), true
	case s[0] == 'l' && size > 0:
		for cut := range len(rest) + 1 {
			kid, ok := slowRead(rest[:cut])
			if !ok {
				continue
			}
			if others, ok := slowRead("l" + sizeOf(size-1) + rest[cut:]); ok {
				return listOf(append([]api.Node{kid}, others.Kids...)...), true
			}
		}
	}
	return api.Node{}, false
}

// some: a right node by chance, of at most that depth.
func some(r *rand.Rand, depth int) api.Node {
	switch k := r.Intn(5); {
	case k == 0:
		return N(r.Uint64() >> r.Intn(64))
	case k == 1 || depth < 2:
		text := make([]byte, r.Intn(4)*r.Intn(50))
		r.Read(text)
		return S(string(text))
	}
	kids := make([]api.Node, r.Intn(6))
	for i := range kids {
		kids[i] = some(r, depth-1)
	}
	return listOf(kids...)
}

// P3.1, P3.2: many nodes, there and back; cut short; with more behind.
func TestMany(t *testing.T) {
	r := rand.New(rand.NewSource(1))
	for range 2000 {
		n := some(r, 7)
		s := bytesOf(n)
		both(t, "by chance", n, s)
		for i := range min(len(s), 300) {
			unread(t, "cut short", s[:i])
		}
		unread(t, "cut short", s[:len(s)-1])
		for _, x := range []string{"\x00", "\x01", "n", "n\x00", s} {
			unread(t, "more behind", s+x)
			unread(t, "more ahead", x+s)
		}
	}
}

// unlike: nodes no two of which are the same.
func unlike() []api.Node {
	kids := []api.Node{N(1)}
	return []api.Node{
		N(0), N(1), N(math.MaxUint64), N(1 << 32), N('a'), S(""), S("a"), S("b"), S("aa"), S("A"), S("a\x00"),
		listOf(), listOf(N(0)), listOf(N(1)), listOf(S("")), listOf(S("a")), listOf(listOf()), listOf(N(0), N(0)), listOf(N(0), N(1)), listOf(N(1), N(0)),
		listOf(listOf(), N(0)), listOf(N(0), listOf()), listOf(listOf(N(0))), listOf(listOf(listOf())), listOf(N(1), N(2), N(3)), listOf(N(1), N(2), N(4)), listOf(listOf(N(1), N(2)), N(3)), listOf(N(1), listOf(N(2), N(3))),
		{Kind: 3}, {Kind: -1}, {Kind: 3, N: 1}, {Kind: 3, S: "a"}, {Kind: 3, Kids: kids},
		{Kind: api.Num, S: "a"}, {Kind: api.Num, S: "b"}, {Kind: api.Num, N: 1, S: "a"}, {Kind: api.Num, Kids: kids}, {Kind: api.Num, N: 1, Kids: kids},
		{Kind: api.Str, N: 1}, {Kind: api.Str, N: 2}, {Kind: api.Str, S: "a", N: 1}, {Kind: api.Str, Kids: kids}, {Kind: api.Str, S: "a", Kids: kids},
		{Kind: api.List, N: 1}, {Kind: api.List, S: "a"}, {Kind: api.List, N: 1, Kids: kids}, {Kind: api.List, S: "a", Kids: kids},
	}
}

// P3.1: the same, and not, of right nodes and of others.
func TestSame(t *testing.T) {
	for i, a := range unlike() {
		for j, b := range unlike() {
			if got := Same(a, b); got != (i == j) {
				t.Errorf("%v and %v: %t", a, b, got)
			}
			if got := Same(listOf(N(1), a, S("x")), listOf(N(1), b, S("x"))); got != (i == j) {
				t.Errorf("%v and %v in lists: %t", a, b, got)
			}
			if got := Same(nested(a, 30), nested(b, 30)); got != (i == j) {
				t.Errorf("%v and %v far down: %t", a, b, got)
			}
		}
	}
	bare, empty := api.Node{Kind: api.List}, api.Node{Kind: api.List, Kids: []api.Node{}}
	for _, x := range [][2]api.Node{{bare, empty}, {listOf(bare, empty), listOf(empty, bare)}, {{N: 1}, {N: 1, Kids: []api.Node{}}}, {{Kind: 5}, {Kind: 5, Kids: []api.Node{}}}} {
		if !Same(x[0], x[1]) || !Same(x[1], x[0]) || !Same(x[0], x[0]) {
			t.Errorf("%v and %v", x[0], x[1])
		}
	}
}

// P3.1: a list that stands at two places is held against both lists that stand there, and in pieces of one list all kids count.
func TestSameTwice(t *testing.T) {
	shared, one, two := listOf(N(1), N(2)), listOf(N(1), N(2)), listOf(N(1), N(3))
	for _, x := range []struct {
		a, b api.Node
		want bool
	}{
		{listOf(shared, shared), listOf(one, one), true},
		{listOf(shared, shared), listOf(one, two), false},
		{listOf(shared, shared), listOf(two, one), false},
		{listOf(one, two), listOf(one, one), false},
		{listOf(listOf(shared, shared), shared), listOf(listOf(one, one), two), false},
		{listOf(listOf(shared.Kids[:1]...), shared), listOf(listOf(one.Kids[:1]...), one), true},
		{listOf(listOf(shared.Kids[:1]...), shared), listOf(listOf(two.Kids[:1]...), two), false},
		{listOf(shared, listOf(shared.Kids[:1]...)), listOf(two, listOf(two.Kids[:1]...)), false},
	} {
		if Same(x.a, x.b) != x.want || Same(x.b, x.a) != x.want {
			t.Errorf("%v and %v: asked for %t", x.a, x.b, x.want)
		}
	}
	kids := []api.Node{N(1), {Kind: 7}}
	for _, n := range []api.Node{listOf(listOf(kids[:1]...), listOf(kids...)), listOf(listOf(kids...), listOf(kids[:1]...))} {
		refused(t, "a piece and all of a list", n, false)
	}
	both(t, "pieces", listOf(listOf(kids[:1]...), listOf(kids[:0]...), listOf(kids[:1]...)), "l\x03l\x01n\x01\x01l\x00l\x01n\x01\x01")
}

// P3.1: pieces of one list are the same where their kids are, and only there, however long they are.
func TestSamePieces(t *testing.T) {
	kids := []api.Node{N(1), N(1), N(1), N(2), S("a")}
	for i := range kids {
		for j := i; j <= len(kids); j++ {
			for k := range kids {
				for l := k; l <= len(kids); l++ {
					a, b := listOf(listOf(kids[i:j]...), listOf(kids[k:l]...)), listOf(listOf(kids[k:l]...), listOf(kids[i:j]...))
					if Same(a, b) != equal(a, b) {
						t.Errorf("%d to %d, %d to %d", i, j, k, l)
					}
				}
			}
		}
	}
}

// P3.1: a list that stands at several levels is too deep, if it is so at one of them.
func TestManyLevels(t *testing.T) {
	shared := nested(listOf(N(1)), 10) // a list of depth 11
	for depth := 1; depth < 30; depth++ {
		want := depth+10 <= 20
		for _, n := range []api.Node{listOf(shared, nested(shared, depth)), listOf(nested(shared, depth), shared), listOf(shared, nested(shared, depth), shared)} {
			if got := Right(n); got != (depth+11 <= 20) {
				t.Errorf("%d levels, two: %t", depth, got)
			}
		}
		if got := Right(nested(shared, depth)); got != want {
			t.Errorf("%d levels: %t", depth, got)
		}
	}
}

// R4: what is handed in isn't changed.
func TestArgumentsStay(t *testing.T) {
	r := rand.New(rand.NewSource(2))
	for range 200 {
		n := some(r, 6)
		before := bytesOf(n)
		Right(n)
		Write(n)
		Same(n, n)
		L(n, n)
		L(n.Kids...)
		if bytesOf(n) != before {
			t.Fatalf("%q: changed", before)
		}
	}
}

// spoil: all kids of a node, down to the last ones, become others, and so does what there is room for behind them.
func spoil(n api.Node) {
	for i := range n.Kids {
		spoil(n.Kids[i])
		n.Kids[i] = S("spoilt")
	}
	_ = append(n.Kids, S("spoilt"))
}

// R4: what L answers shares no memory with what it was handed, and its lists share none among them.
func TestListsOwn(t *testing.T) {
	r := rand.New(rand.NewSource(3))
	for range 200 {
		kids := []api.Node{some(r, 6), some(r, 6), listOf(N(1), listOf(N(2)))}
		kids = append(kids, kids[2], kids[0])
		n := L(kids...)
		want := bytesOf(n)
		spoil(listOf(kids...))
		if got := bytesOf(n); got != want {
			t.Fatalf("%q: %q behind what was done to its kids", want, got)
		}
		ownLists(t, n)
	}
	kids := []api.Node{N(1), N(2), N(3)}
	n := L(kids[:2]...)
	_ = append(n.Kids, N(4))
	if kids[2].N != 3 {
		t.Error("there is room for more in the caller's list")
	}
}

// ownLists: whatever becomes of one list of n, the others stay.
func ownLists(t *testing.T, n api.Node) {
	t.Helper()
	for i := range n.Kids {
		ownLists(t, n.Kids[i])
	}
	for i := range n.Kids {
		others := slices.Delete(slices.Clone(n.Kids), i, i+1)
		before := bytesOf(listOf(others...))
		spoil(n.Kids[i])
		if bytesOf(listOf(others...)) != before {
			t.Fatalf("the kid %d shares memory with another", i)
		}
	}
}

// R4: the lists of what Read answers share no memory, not with another answer either.
func TestReadsOwn(t *testing.T) {
	r := rand.New(rand.NewSource(4))
	for range 200 {
		s := bytesOf(listOf(some(r, 6), some(r, 6), listOf(N(1), listOf(N(2)), listOf(N(2)))))
		a, _ := Read(s)
		b, _ := Read(s)
		ownLists(t, a)
		if got := bytesOf(b); got != s {
			t.Fatalf("%q: %q behind what was done to another answer", s, got)
		}
	}
}

// soon: f ends, and soon.
func soon(t *testing.T, what string, f func()) {
	t.Helper()
	done := make(chan bool)
	go func() {
		defer close(done)
		f()
	}()
	select {
	case <-done:
	case <-time.After(time.Minute):
		t.Fatalf("%s: no end", what)
	}
}

// bushy: lists as deep, each of them width times the same one.
func bushy(depth, width int) api.Node {
	n := N(1)
	for range depth - 1 {
		kids := make([]api.Node, width)
		for i := range kids {
			kids[i] = n
		}
		n = listOf(kids...)
	}
	return n
}

// P0: nodes whose lists stand at more places than anybody could walk through.
func TestBushyEnds(t *testing.T) {
	soon(t, "right ones", func() {
		a, b := bushy(20, 100), bushy(20, 100)
		if !Same(a, b) || !Same(a, a) || Same(a, bushy(21, 100)) || Same(a, bushy(20, 99)) {
			t.Error("not the same, or so")
		}
		refused(t, "depth 20", a, true)
		refused(t, "depth 21", bushy(21, 100), false)
	})
}

// P0: lists that stand within themselves: they have no depth and no bytes, and nobody waits for them for ever.
func TestRingsEnd(t *testing.T) {
	ring := func(width int) api.Node {
		kids := make([]api.Node, width)
		for i := range kids {
			kids[i] = listOf(kids...)
		}
		return listOf(N(1), listOf(kids...))
	}
	for _, width := range []int{1, 2, 10, 1000} {
		soon(t, "a ring", func() {
			a, b := ring(width), ring(width)
			refused(t, "a ring", a, false)
			if !Same(a, a) || Same(a, nested(N(1), 100)) || Same(a, ring(width+1)) || !Same(a, b) {
				t.Error("rings are the same, or not")
			}
			if n := L(a, N(1)); n.Kind != api.List || len(n.Kids) != 2 {
				t.Error("a list of a ring")
			}
		})
	}
}

// P0: as many levels as the document speaks of.
func TestManyNests(t *testing.T) {
	soon(t, "nests", func() {
		a, b := nested(N(1), 1<<16), nested(N(1), 1<<16)
		if !Same(a, b) || Same(a, nested(N(2), 1<<16)) || Same(a, nested(N(1), 1<<16-1)) {
			t.Error("the same, or not")
		}
		n := L(a.Kids...)
		a.Kids[0].Kids[0].Kids[0] = S("x")
		if !Same(n, b) {
			t.Error("a list that isn't its own")
		}
	})
}

// P0: whatever is read, no call panics, and what is read is written again as it was.
func FuzzRead(f *testing.F) {
	for _, s := range []string{"", "n\x00", "n\x02\x01\x02", "s\x01a", "s\x80\x01" + strings.Repeat("a", 128), "l\x00", "l\x02n\x02\x01\x02s\x01a", strings.Repeat("l\x01", 19) + "l\x00", strings.Repeat("l\x01", 20) + "l\x00", "s\x80\x00", "l\xff\xff\xff\x7f"} {
		f.Add(s)
	}
	f.Fuzz(func(t *testing.T, s string) {
		n, ok := Read(s)
		if !ok {
			if !equal(n, api.Node{}) {
				t.Errorf("%q: %v", s, n)
			}
			return
		}
		if got, wrote := Write(n); !wrote || got != s || !Right(n) || bytesOf(n) != s {
			t.Errorf("%q: %q, %t", s, got, wrote)
		}
		for i := range min(len(s), 100) {
			unread(t, "cut short", s[:i])
		}
		unread(t, "more behind", s+"\x00")
	})
}

// thousand: a list of as many nodes by chance.
func thousand() api.Node {
	r := rand.New(rand.NewSource(5))
	kids := make([]api.Node, 1000)
	for i := range kids {
		kids[i] = some(r, 5)
	}
	return listOf(kids...)
}

func BenchmarkWrite(b *testing.B) {
	n := thousand()
	b.SetBytes(int64(len(bytesOf(n))))
	for b.Loop() {
		Write(n)
	}
}

func BenchmarkRead(b *testing.B) {
	s := bytesOf(thousand())
	b.SetBytes(int64(len(s)))
	for b.Loop() {
		Read(s)
	}
}
