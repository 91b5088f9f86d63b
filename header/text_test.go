package header

import (
	"fmt"
	"math"
	"math/rand"
	"runtime"
	"slices"
	"strings"
	"testing"

	"vidimus/api"
	"vidimus/codec"
)

// short: at most the first letters of a text.
func short(s string) string { return fmt.Sprintf("%d bytes, %.60q", len(s), s) }

// both: l has that text, and that text is l.
func both(t *testing.T, what string, l []api.Signed, want string) {
	t.Helper()
	if got := Text(l); got != want {
		t.Errorf("%s: %s; asked for %s", what, short(got), short(want))
	}
	if got, ok := Read(want); !ok || !slices.Equal(got, l) {
		t.Errorf("%s: read as %s, %t", what, name(got), ok)
	}
}

// unread: s is no list's text.
func unread(t *testing.T, what, s string) {
	t.Helper()
	if l, ok := Read(s); ok || len(l) > 0 {
		t.Errorf("%s: %s is read as %s, %t", what, short(s), name(l), ok)
	}
}

// macs: of any length and letters.
func macs() []string {
	return []string{"", "m", "\x00", "s\x00", hashOf("mac"), strings.Repeat("m", 31), strings.Repeat("m", 33), strings.Repeat("m", 127), strings.Repeat("m", 128), strings.Repeat("\xff", 20000)}
}

// lists: many of right ones.
func lists() [][]api.Signed {
	var all []api.Signed
	out := [][]api.Signed{nil, grown("key", First("key", 7), 10, "l")}
	for i, h := range headers() {
		all = append(all, api.Signed{Header: h, Mac: macs()[i%9]})
		out = append(out, all[i:])
	}
	for _, mac := range macs() {
		out = append(out, []api.Signed{{Header: full(), Mac: mac}}, []api.Signed{{Header: full(), Mac: mac}, {Header: full(), Mac: mac}})
	}
	return append(out, all)
}

// P12.1: texts that stand here.
func TestTextKnown(t *testing.T) {
	both(t, "nothing", nil, "l\x00")
	both(t, "an empty list", []api.Signed{}, "l\x00")
	zero := strings.Repeat("\x00", 32)
	both(t, "one", []api.Signed{{Header: api.Header{Prev: zero, Root: zero}}},
		"l\x01l\x07n\x00n\x00s\x20"+zero+"s\x20"+zero+"n\x00n\x00s\x00")
	prev, root := strings.Repeat("p", 32), strings.Repeat("r", 32)
	both(t, "two", []api.Signed{
		{Header: api.Header{Shard: 1, Seq: 258, Prev: prev, Root: root, Who: 3, Stamp: math.MaxUint64}, Mac: "mac"},
		{Header: api.Header{Shard: 4, Seq: 0, Prev: root, Root: prev, Who: 255, Stamp: 256}, Mac: "\x00"},
	}, "l\x02"+
		"l\x07n\x01\x01n\x02\x01\x02s\x20"+prev+"s\x20"+root+"n\x01\x03n\x08\xff\xff\xff\xff\xff\xff\xff\xffs\x03mac"+
		"l\x07n\x01\x04n\x00s\x20"+root+"s\x20"+prev+"n\x01\xffn\x02\x01\x00s\x01\x00")
}

// P12.1: lists of any signed headers, their texts, read again; whether they are signed, or follow one another, isn't asked.
func TestTexts(t *testing.T) {
	for i, l := range lists() {
		both(t, fmt.Sprint("list ", i), l, plainText(l))
	}
	for _, count := range []int{1, 2, 126, 127, 128, 129, 300, 16384} {
		l := make([]api.Signed, count)
		for i := range l {
			l[i] = api.Signed{Header: full(), Mac: fmt.Sprint(i)}
			l[i].Header.Seq = uint64(i)
		}
		both(t, fmt.Sprint(count, " headers"), l, plainText(l))
	}
}

// P12.1: of a list with what is no header in it there is no text, and what would be its text is none.
func TestTextNoHeader(t *testing.T) {
	good := plainSigned("key", full())
	for _, h := range noHeaders() {
		bad := plainSigned("key", h)
		for _, l := range [][]api.Signed{{bad}, {bad, good, good}, {good, bad, good}, {good, good, bad}} {
			if got := Text(l); got != "" {
				t.Errorf("%s: %s", name(h), short(got))
			}
			unread(t, name(h), plainText(l))
		}
		if n := Node(bad); !codec.Same(n, api.Node{}) || n.Kids != nil {
			t.Errorf("%s: a node %s", name(h), name(n))
		}
	}
	if got := Text(make([]api.Signed, 3)); got != "" {
		t.Error(short(got))
	}
}

// P12.1: what is just not too long, and what is.
func TestTextLong(t *testing.T) {
	for _, ahead := range [][]api.Signed{nil, grown("key", First("key", 1), 100, "l"), {{Header: full(), Mac: strings.Repeat("m", 1<<23)}}} {
		l := append(slices.Clone(ahead), api.Signed{Header: full()})
		// The size of a Mac of so many bytes takes four bytes, or three.
		least := len(plainText(l))
		fit := api.MaxBytes - least - 3
		l[len(l)-1].Mac = strings.Repeat("m", fit)
		if len(plainText(l)) != api.MaxBytes {
			t.Fatalf("%d bytes", len(plainText(l)))
		}
		both(t, "of 2^24 bytes", l, plainText(l))
		l[len(l)-1].Mac += "m"
		if got := Text(l); got != "" {
			t.Errorf("of 2^24 + 1 bytes: %d", len(got))
		}
		unread(t, "of 2^24 + 1 bytes", plainText(l))
	}
	for _, n := range []int{api.MaxBytes, api.MaxBytes + 1, 3 * api.MaxBytes} {
		if got := Text([]api.Signed{{Header: full(), Mac: strings.Repeat("m", n)}}); got != "" {
			t.Errorf("a Mac of %d: %d bytes", n, len(got))
		}
	}
}

// P12.1: as many of the shortest headers as fit, and one more.
func TestTextMany(t *testing.T) {
	one := api.Signed{Header: api.Header{Prev: fill(0), Root: fill(0)}}
	row := len(plainRow(one))
	fit := (api.MaxBytes - 4) / row
	l := slices.Repeat([]api.Signed{one}, fit)
	rest := api.MaxBytes - 4 - fit*row
	l[fit-1].Mac = strings.Repeat("m", rest)
	s := Text(l)
	if len(s) != api.MaxBytes {
		t.Fatalf("%d headers: %d bytes", fit, len(s))
	}
	if got, ok := Read(s); !ok || !slices.Equal(got, l) {
		t.Errorf("%d headers: read otherwise, %t", fit, ok)
	}
	l[fit-1].Mac += "m"
	if got := Text(l); got != "" {
		t.Errorf("%d bytes", len(got))
	}
	l[fit-1].Mac = ""
	if got := Text(append(l, one)); got != "" {
		t.Errorf("%d headers: %d bytes", fit+1, len(got))
	}
}

// P0: far too many headers are refused without memory for them all.
func TestTextFarTooMany(t *testing.T) {
	l := slices.Repeat([]api.Signed{First("key", 7)}, 1000000)
	var before, after runtime.MemStats
	runtime.ReadMemStats(&before)
	if got := Text(l); got != "" {
		t.Errorf("%d bytes", len(got))
	}
	runtime.ReadMemStats(&after)
	if taken := after.TotalAlloc - before.TotalAlloc; taken > 1<<24 {
		t.Errorf("%d bytes of memory", taken)
	}
}

// P12.1: trees of other shapes are no lists of signed headers.
func TestReadOthers(t *testing.T) {
	good := plainRow(plainSigned("key", full()))
	for _, s := range []string{"", "\x00", "n\x00", "s\x00", "l", "x", good, num(7), text(good), text(plainText(nil)), rows(rows()), rows(rows(good)), rows(num(1)), rows(text("a"))} {
		unread(t, "other", s)
	}
	fields := append(parts(full()), text("mac"))
	for _, f := range others(fields) {
		for _, l := range [][]string{{rows(f...)}, {rows(f...), good, good}, {good, rows(f...), good}, {good, good, rows(f...)}} {
			unread(t, fmt.Sprintf("%.100q", f), rows(l...))
		}
	}
	for _, kid := range []string{num(0), text(""), rows(), text(good), plain(full()), rows(plain(full()), text("mac"))} {
		for _, l := range [][]string{{kid}, {kid, good}, {good, kid}} {
			unread(t, short(kid), rows(l...))
		}
	}
}

// others: fields of which one is missing, too many, or of another kind or length.
func others(fields []string) [][]string {
	var out [][]string
	kids := []string{num(0), num(1), text(""), text("a"), text(fill(1)), rows(), rows(num(1)), rows(fields...)}
	for i, f := range fields {
		out = append(out, without(fields, i))
		for _, kid := range kids {
			if kid[0] != f[0] {
				x := slices.Clone(fields)
				x[i] = kid
				out = append(out, x)
			}
			out = append(out, slices.Insert(slices.Clone(fields), i, kid))
		}
	}
	for _, kid := range kids {
		out = append(out, append(slices.Clone(fields), kid))
	}
	for _, n := range []int{0, 1, 31, 33, 64} {
		for _, i := range []int{2, 3} {
			x := slices.Clone(fields)
			x[i] = text(strings.Repeat("p", n))
			out = append(out, x)
		}
	}
	return append(out, nil, fields[:3], slices.Concat(fields, fields))
}

// P12.1: bytes that no node has, though they say the same.
func TestReadOtherBytes(t *testing.T) {
	fields := append(parts(full()), text("mac"))
	for i, other := range map[int]string{0: "n\x02\x00\x03", 1: "n\x82\x00\x01\x02", 2: "s\xa0\x00" + full().Prev, 4: "n\x81\x00\x05", 6: "s\x83\x00mac"} {
		x := slices.Clone(fields)
		x[i] = other
		unread(t, fmt.Sprintf("%q at %d", other, i), rows(rows(x...)))
	}
	row := rows(fields...)
	unread(t, "another size of one", "l\x01l\x87\x00"+row[2:])
	unread(t, "another size of all", "l\x81\x00"+row)
	unread(t, "more told than there are", "l\x02"+row)
	unread(t, "far more", "l\xff\xff\xff\x7f"+row)
	unread(t, "fewer told than there are", "l\x00"+row)
	unread(t, "no size", "l")
}

// readOrNot: s is read as a list whose text it is, or not at all.
func readOrNot(t *testing.T, s string) bool {
	t.Helper()
	l, ok := Read(s)
	if ok && (Text(l) != s || plainText(l) != s) {
		t.Fatalf("%q is read as %s, whose text is %q", s, name(l), Text(l))
	}
	if !ok && len(l) > 0 {
		t.Fatalf("%q is read as %s, false", s, name(l))
	}
	return ok
}

// samples: lists of several shapes, short ones.
func samples() [][]api.Signed {
	return [][]api.Signed{
		nil, {First("key", 7)}, grown("key", First("key", 7), 3, "l"), {{Header: full()}, {Header: full(), Mac: "m"}},
		{{Header: headers()[len(headers())-1], Mac: strings.Repeat("m", 200)}},
	}
}

// P12.1: texts that are cut anywhere, or have a byte more, are no list's; with a bit turned they are another one's, or none's.
func TestTurnedTexts(t *testing.T) {
	for _, l := range samples() {
		s := Text(l)
		read := 0
		for i := range s {
			unread(t, fmt.Sprint("cut at ", i), s[:i])
			unread(t, fmt.Sprint("from ", i+1), s[i+1:])
			for bit := range 8 {
				x := turned(s, 8*i+bit)
				if got, ok := Read(x); ok && slices.Equal(got, l) {
					t.Errorf("the bit %d of the byte %d says nothing", bit, i)
				}
				if readOrNot(t, x) {
					read++
				}
			}
		}
		if read == 0 && len(l) > 0 {
			t.Error("none of them was read")
		}
		for b := range 256 {
			unread(t, "a byte more", s+string([]byte{byte(b)}))
			unread(t, "a byte ahead", string([]byte{byte(b)})+s)
		}
		unread(t, "twice", s+s)
	}
}

// P12.1: any lists there and back, and any texts.
func TestAnyTexts(t *testing.T) {
	r := rand.New(rand.NewSource(1))
	for range 5000 {
		var l []api.Signed
		right := true
		for range r.Intn(5) {
			mac := make([]byte, r.Intn(40))
			r.Read(mac)
			h := anyHeader(r)
			l = append(l, api.Signed{Header: h, Mac: string(mac)})
			right = right && len(h.Prev) == 32 && len(h.Root) == 32
		}
		s := plainText(l)
		if !right {
			if got := Text(l); got != "" {
				t.Fatalf("%s: %q", name(l), got)
			}
			unread(t, name(l), s)
			continue
		}
		both(t, name(l), l, s)
		b := []byte(s)
		for range 1 + r.Intn(4) {
			b[r.Intn(len(b))] = byte(r.Intn(256))
		}
		readOrNot(t, string(b))
	}
}

// nodeOf: the node of a signed header, by the words of the chapter.
func nodeOf(s api.Signed) api.Node {
	h := s.Header
	return api.Node{Kind: api.List, Kids: []api.Node{
		{N: h.Shard}, {N: h.Seq}, {Kind: api.Str, S: h.Prev}, {Kind: api.Str, S: h.Root}, {N: h.Who}, {N: h.Stamp}, {Kind: api.Str, S: s.Mac},
	}}
}

// P12.1: a signed header as a node, and back.
func TestNode(t *testing.T) {
	for _, h := range headers() {
		for _, mac := range macs() {
			s := api.Signed{Header: h, Mac: mac}
			n := Node(s)
			if !codec.Same(n, nodeOf(s)) || !codec.Right(n) {
				t.Errorf("%s: %s", name(s), name(n))
			}
			if b, ok := codec.Write(n); !ok || b != plainRow(s) {
				t.Errorf("%s: %s, %t", name(s), short(b), ok)
			}
			if got, ok := Of(n); !ok || got != s {
				t.Errorf("%s: of its node %s, %t", name(s), name(got), ok)
			}
			if got, ok := Of(nodeOf(s)); !ok || got != s {
				t.Errorf("%s: of what is its node %s, %t", name(s), name(got), ok)
			}
		}
	}
	// A Mac may be longer than any record.
	s := api.Signed{Header: full(), Mac: strings.Repeat("m", api.MaxBytes+1)}
	if got, ok := Of(Node(s)); !ok || got != s {
		t.Error("a long Mac")
	}
}

// notOf: n is no signed header's node.
func notOf(t *testing.T, what string, n api.Node) {
	t.Helper()
	if s, ok := Of(n); ok || s != (api.Signed{}) {
		t.Errorf("%s: %s, %t", what, name(s), ok)
	}
}

// P12.1: nodes that are no signed header's: a kid too few, too many, of another form, and fields that aren't theirs.
func TestOfOthers(t *testing.T) {
	good := func() api.Node { return nodeOf(plainSigned("key", full())) }
	for _, n := range []api.Node{{}, {N: 7}, {Kind: api.Str, S: "x"}, {Kind: api.List}, {Kind: api.List, Kids: []api.Node{}}, {Kind: 3}, {Kind: -1},
		{Kind: api.List, Kids: []api.Node{good()}}, {Kind: api.List, Kids: make([]api.Node, 7)}, {Kind: api.List, Kids: make([]api.Node, 1000)}} {
		notOf(t, name(n), n)
	}
	for _, kind := range []int{api.Num, api.Str, 3, -1, 258, math.MinInt} {
		n := good()
		n.Kind = kind
		notOf(t, fmt.Sprint("of kind ", kind), n)
	}
	n := good()
	n.N = 1
	notOf(t, "a list with a number", n)
	n = good()
	n.S = "x"
	notOf(t, "a list with a text", n)
	for i := range 7 {
		for _, kid := range []api.Node{{}, {N: 1}, {Kind: api.Str}, {Kind: api.Str, S: fill(1)}, {Kind: api.List}, {Kind: api.List, Kids: make([]api.Node, 1)}, {Kind: 3}, good()} {
			n := good()
			if n.Kids[i].Kind != kid.Kind {
				n.Kids[i] = kid
				notOf(t, fmt.Sprintf("%s at %d", name(kid), i), n)
			}
			n.Kids = slices.Insert(n.Kids, i, kid)
			notOf(t, fmt.Sprintf("%s more at %d", name(kid), i), n)
		}
		n := good()
		n.Kids = without(n.Kids, i)
		notOf(t, fmt.Sprint("without ", i), n)
		n = good()
		n.Kids[i].Kids = make([]api.Node, 1)
		notOf(t, fmt.Sprintf("a kid at %d that has kids", i), n)
		n = good()
		n.Kids[i].Kind += 256
		notOf(t, fmt.Sprintf("of a great kind at %d", i), n)
		n = good()
		if n.Kids[i].Kind == api.Num {
			n.Kids[i].S = "x"
		} else {
			n.Kids[i].N = 1
		}
		notOf(t, fmt.Sprintf("a kid at %d with another kind's field", i), n)
	}
	n = good()
	n.Kids = append(n.Kids, api.Node{})
	notOf(t, "one more", n)
	for _, h := range noHeaders() {
		notOf(t, name(h), nodeOf(plainSigned("key", h)))
	}
}

// P12.1: an empty list may be nil or not, also where none is asked for.
func TestOfEmptyLists(t *testing.T) {
	s := plainSigned("key", full())
	n := nodeOf(s)
	for i := range n.Kids {
		n.Kids[i].Kids = []api.Node{}
	}
	if got, ok := Of(n); !ok || got != s {
		t.Error(name(got), ok)
	}
}

// P0: of lists that have themselves as kids it is told at once that they are no signed header's.
func TestOfEndless(t *testing.T) {
	n := nodeOf(plainSigned("key", full()))
	for i := range n.Kids {
		x := n
		x.Kids = slices.Clone(n.Kids)
		x.Kids[i] = api.Node{Kind: api.List, Kids: x.Kids}
		notOf(t, "within itself", x)
	}
	kids := make([]api.Node, 7)
	for i := range kids {
		kids[i] = api.Node{Kind: api.List, Kids: kids}
	}
	notOf(t, "all within themselves", api.Node{Kind: api.List, Kids: kids})
}

// R4: what is answered is the caller's own.
func TestOwnMemory(t *testing.T) {
	l := grown("key", First("key", 7), 3, "l")
	s := Text(l)
	first, _ := Read(s)
	second, _ := Read(s)
	clear(first)
	if !slices.Equal(second, l) || Text(l) != s {
		t.Error("two answers share memory")
	}
	n, m := Node(l[0]), Node(l[0])
	clear(n.Kids)
	if got, ok := Of(m); !ok || got != l[0] {
		t.Error("two nodes share memory")
	}
	got, _ := Of(m)
	clear(m.Kids)
	if got != l[0] {
		t.Error(name(got))
	}
}

// FuzzRead: any text is a list's, as that is written, or none's.
func FuzzRead(f *testing.F) {
	for _, l := range samples() {
		f.Add(Text(l))
	}
	f.Fuzz(func(t *testing.T, s string) {
		readOrNot(t, s)
	})
}

// FuzzSign: any header, by any key.
func FuzzSign(f *testing.F) {
	f.Add("key", uint64(7), uint64(0), fill(0), fill(0), uint64(0), uint64(0))
	f.Add("", uint64(math.MaxUint64), uint64(math.MaxUint64), fill(255), "", uint64(1), uint64(2))
	f.Fuzz(func(t *testing.T, key string, shard, seq uint64, prev, root string, who, stamp uint64) {
		h := api.Header{Shard: shard, Seq: seq, Prev: prev, Root: root, Who: who, Stamp: stamp}
		s, ok := Sign(key, h)
		if right := len(prev) == 32 && len(root) == 32; ok != right || !right && (s != (api.Signed{}) || Hash(h) != "") {
			t.Fatalf("%s: %s, %t", name(h), name(s), ok)
		}
		if ok && (s != plainSigned(key, h) || !Check(key, s) || Hash(h) != hashOf(plain(h))) {
			t.Fatalf("%s: %s", name(h), name(s))
		}
	})
}
