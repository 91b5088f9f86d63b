package part

import (
	"encoding/hex"
	"fmt"
	"math/rand"
	"slices"
	"strings"
	"testing"
	"unsafe"

	"vidimus/api"
	"vidimus/trie"
)

// isShown: of the map is shown what the words say, and what was opened of it tells all that was asked, as the map does.
func isShown(t *testing.T, m model, a asking) version {
	t.Helper()
	x := m.made()
	s, ok := Show(x, a.keys, a.under)
	want := a.shown(m.tree())
	if !ok || s != textOf(want) {
		t.Fatalf("Show: %d bytes, %v; asked for %d", len(s), ok, len(textOf(want)))
	}
	p, ok := Open(x.Root(), s)
	if !ok || p == nil {
		t.Fatal("what was shown isn't opened")
	}
	for _, k := range a.keys {
		val, there, known := p.Get(k)
		if has, ok := x.Get(k); !known || there != ok || val != has {
			t.Fatalf("Get(%x) of what was asked: %q, %v, %v", k, val, there, known)
		}
	}
	for _, u := range a.under {
		if got, known := p.Under(u.Key, u.Bits); !known || !slices.Equal(got, x.Under(u.Key, u.Bits)) {
			t.Fatalf("Under(%x, %d) of what was asked: %d pairs, %v", u.Key, u.Bits, len(got), known)
		}
	}
	v := version{p, m, stubs(want)}
	v.isWhole(t)
	return v
}

// P6.1: the chapter's example.
func TestExample(t *testing.T) {
	for _, x := range []*trie.Trie{nil, trie.New(), new(trie.Trie), trie.New().Put(lone(3), "").Delete(lone(3))} {
		for _, k := range []string{lone(256), hash("k"), ""} {
			s, ok := Show(x, []string{k}, nil)
			if s != "l\x00" || !ok {
				t.Fatalf("%q, %v", s, ok)
			}
			p, ok := Open(lone(256), s)
			if val, there, known := p.Get(k); !ok || val != "" || there || !known {
				t.Fatalf("%q, %v, %v", val, there, known)
			}
		}
	}
}

// P6.1: a map of no pair: whatever is asked, nothing is there, which is known, and all keys may be put.
func TestNoPair(t *testing.T) {
	for _, a := range []asking{{}, {keys: []string{lone(256)}}, {under: []api.Prefix{{Key: lone(256)}}}, {keys: wrongKeys(), under: []api.Prefix{{Key: "x", Bits: -1}}}} {
		v := isShown(t, model{}, a)
		v.is(t)
		if v.p.Top() != nil {
			t.Error("a tree")
		}
	}
	version{p: new(Part), m: model{}}.is(t)
	refused(t, "no pair, another root", hash("k"), "l\x00")
}

// P6.1: texts written out by hand.
func TestTextsByHand(t *testing.T) {
	zero, one := strings.Repeat("\x00", 32), strings.Repeat("\x00", 31)+"\x03"
	a, b := "l\x02s\x20"+zero+"s\x00", "l\x02s\x20"+one+"s\x01w"
	stubA, stubB := "s\x20"+hash("\x00"+zero+hash("")), "s\x20"+hash("\x00"+one+hash("w"))
	fork := "l\x02n\x01\xfes\x20" + zero
	two := trie.New().Put(one, "w").Put(zero, "")
	tests := []struct {
		name  string
		x     *trie.Trie
		keys  []string
		under []api.Prefix
		want  string
	}{
		{"one pair, nothing asked", trie.New().Put(one, "w"), nil, nil, "l\x01" + b},
		{"one pair, another key", trie.New().Put(zero, ""), []string{one}, nil, "l\x01" + a},
		{"two, nothing asked", two, nil, nil, "l\x03" + fork + stubA + stubB},
		{"two, the first", two, []string{zero}, nil, "l\x03" + fork + a + stubB},
		{"two, the second", two, []string{one}, nil, "l\x03" + fork + stubA + b},
		{"two, the second twice", two, []string{one, one}, []api.Prefix{{Key: one, Bits: 256}}, "l\x03" + fork + stubA + b},
		{"two, both", two, []string{one, zero}, nil, "l\x03" + fork + a + b},
		{"two, one that isn't there, beside the first", two, []string{lone(255)}, nil, "l\x03" + fork + a + stubB},
		{"two, one that hasn't their first bits", two, []string{lone(0), lone(253)}, nil, "l\x03" + fork + stubA + stubB},
		{"two, all", two, nil, []api.Prefix{{Key: lone(0), Bits: 0}}, "l\x03" + fork + a + b},
		{"two, up to their place", two, nil, []api.Prefix{{Key: one, Bits: 254}}, "l\x03" + fork + a + b},
		{"two, behind their place", two, nil, []api.Prefix{{Key: one, Bits: 255}}, "l\x03" + fork + stubA + b},
		{"two, other first bits", two, nil, []api.Prefix{{Key: lone(253), Bits: 254}, {Key: lone(0), Bits: 1}, {Key: lone(253), Bits: 256}}, "l\x03" + fork + stubA + stubB},
	}
	for _, x := range tests {
		if s, ok := Show(x.x, x.keys, x.under); s != x.want || !ok {
			t.Errorf("%s: %q, %v", x.name, s, ok)
		}
	}
}

// P6.1: texts that were worked out elsewhere.
func TestTextsKnown(t *testing.T) {
	n := func(i int) string { return hash(fmt.Sprint(i)) }
	tests := []struct {
		name string
		m    model
		a    asking
		len  int
		want string
	}{
		{"hundred, nothing", hundred(), asking{}, 108, "812167cf593df381d8cc7c9e5db6830fe08180643f98423eee95cf9398b3b708"},
		{"hundred, three", hundred(), asking{keys: []string{n(3)}}, 624, "d69b6213c0b6016d9a64cbef98dd72485f4a90bfd26b553488f14e6bd9f0ed92"},
		{"hundred, three and none", hundred(), asking{keys: []string{n(3), n(1000)}}, 776, "a55344465d29ee5ba354b437f8896ecb3171cf6f0bedd90485ee1dca0748e8fd"},
		{"hundred, 4 bits", hundred(), asking{under: []api.Prefix{{Key: n(5), Bits: 4}}}, 805, "024704b8f5cc2286f7010ea49ede87389cd092a1d8266018143a7e8f23b81e5d"},
		{"hundred, of all kinds", hundred(), asking{[]string{n(3), n(77), n(1000), "short"}, []api.Prefix{{Key: n(5), Bits: 4}, {Key: n(6), Bits: 300}, {Key: n(7), Bits: 7}, {Key: n(8), Bits: 256}}}, 2517, "9711990313868365ff9b78e51c6ef1375d826572dcffb09f725d18f890d79ca5"},
		{"hundred, all", hundred(), asking{under: []api.Prefix{{Key: lone(256)}}}, 7853, "31db7cdbcd9416e4d852ccc1e8feaa83b44b37123dd273d2933e77fe9d59739b"},
		{"chain, nothing", chain(), asking{}, 108, "c783de53f9423c8531373e4833ba031eecdc6f7d99776c12f8865fb7c5cbe202"},
		{"chain, deepest", chain(), asking{keys: []string{lone(256)}}, 18728, "66a9bd81ec1be28991447e5e4a3125959606103aa911c28affd7724c92993d89"},
		{"chain, 200", chain(), asking{keys: []string{lone(200)}}, 14714, "dd8bdb937632a2abbbd476c477cf47cf6eb563930d2a284996d23f76ae22d436"},
		{"chain, 128 bits", chain(), asking{under: []api.Prefix{{Key: lone(256), Bits: 128}}}, 19368, "b410fceba4b08b91641e276d9de3d34a8caee473c22c8e4c98e5bb617b0e6349"},
		{"chain, 129 bits", chain(), asking{under: []api.Prefix{{Key: lone(128), Bits: 129}}}, 9458, "cb9736e5c6134e0b6c66edd1ce9165482867033713a3321201def74c626ad330"},
	}
	for _, x := range tests {
		s, ok := Show(x.m.made(), x.a.keys, x.a.under)
		if got := hex.EncodeToString([]byte(hash(s))); !ok || len(s) != x.len || got != x.want {
			t.Errorf("%s: %d bytes, %s, %v", x.name, len(s), got, ok)
		}
		isShown(t, x.m, x.a)
	}
}

// P6.1: a map of one pair: it is open, whatever is asked, and so all is known.
func TestOnePair(t *testing.T) {
	for _, k := range []string{lone(256), lone(0), lone(255), strings.Repeat("\xff", 32), hash("k")} {
		for _, val := range []string{"", "v", k, strings.Repeat("ä\xff", 5000)} {
			m := model{k: val}
			for _, a := range []asking{{}, {keys: []string{k}}, {keys: []string{hash("other")}}, {under: []api.Prefix{{Key: k, Bits: 9}}}, {keys: wrongKeys()}} {
				v := isShown(t, m, a)
				if _, known := v.p.Under(k, 0); !known || len(v.shut) > 0 {
					t.Fatal("not all of one pair is known")
				}
			}
			isShown(t, m, asking{}).is(t)
		}
	}
}

// P6.1: two pairs, parting in each bit that there is; keys and prefixes that lead to the one, the other, both or neither.
func TestTwoPairs(t *testing.T) {
	for _, k := range []string{lone(256), strings.Repeat("\xff", 32), hash("two")} {
		for i := range 256 {
			other := flipped(k, i)
			m := model{k: "val", other: ""}
			all := []asking{{}, {keys: []string{k}}, {keys: []string{other}}, {keys: []string{other, k}}, {keys: []string{flipped(k, 255-i)}}}
			for _, n := range around([]int{i}) {
				all = append(all, asking{under: []api.Prefix{{Key: k, Bits: n}}}, asking{under: []api.Prefix{{Key: flipped(other, i/2), Bits: n}}})
			}
			for _, a := range all {
				v := isShown(t, m, a)
				for _, n := range []int{0, i, i + 1, 256} {
					v.tells(t, k, n)
					v.tells(t, other, n)
				}
			}
		}
	}
}

// P6.1: prefixes of each length in a map with a fork at each place, as deep as one can be.
func TestPrefixes(t *testing.T) {
	m := chain()
	x, f := m.made(), m.tree()
	for n := range 257 {
		for _, k := range []string{lone(256), lone(n), lone(max(n-1, 0)), lone(max(n-2, 0))} {
			s, ok := Show(x, nil, []api.Prefix{{Key: k, Bits: n}})
			if want := textOf(asking{under: []api.Prefix{{Key: k, Bits: n}}}.shown(f)); s != want || !ok {
				t.Fatalf("%d bits of %x: %d bytes, asked for %d", n, k, len(s), len(want))
			}
		}
	}
	for _, n := range []int{0, 1, 2, 127, 128, 254, 255, 256} {
		v := isShown(t, m, asking{under: []api.Prefix{{Key: lone(256), Bits: n}}})
		for _, i := range []int{0, 1, n, 128, 255} {
			v.tells(t, lone(i), 0, 1, max(n-1, 0), n, min(n+1, 256), 255, 256)
		}
	}
}

// P6.1: no bit of the key behind a prefix's matters, and each of it does.
func TestPrefixBits(t *testing.T) {
	r := rand.New(rand.NewSource(61))
	m := some(r, 20)
	x := m.made()
	for _, k := range m.keys()[:5] {
		for n := range 257 {
			s, _ := Show(x, nil, []api.Prefix{{Key: k, Bits: n}})
			if n < 256 {
				if other, _ := Show(x, nil, []api.Prefix{{Key: flipped(k, n), Bits: n}}); s != other {
					t.Fatalf("%d bits hang on bit %d", n, n)
				}
			}
			if n > 0 {
				isShown(t, m, asking{under: []api.Prefix{{Key: flipped(k, n-1), Bits: n}}})
			}
		}
	}
}

// P6.1: keys and prefixes that aren't right lead nowhere, and take nothing from the others.
func TestWrongAsked(t *testing.T) {
	r := rand.New(rand.NewSource(62))
	for n := range 12 {
		m := some(r, n)
		x := m.made()
		var under []api.Prefix
		for _, k := range wrongKeys() {
			for _, bits := range []int{0, 1, 8, 256, -1, 257} {
				under = append(under, api.Prefix{Key: k, Bits: bits})
			}
		}
		for _, k := range append(m.keys(), lone(256)) {
			for _, bits := range wrongBits() {
				under = append(under, api.Prefix{Key: k, Bits: bits})
			}
		}
		wrong := append(wrongKeys(), longer(x.Top())...)
		bare, _ := Show(x, nil, nil)
		if s, ok := Show(x, wrong, under); s != bare || !ok {
			t.Fatalf("%d pairs: wrong keys and prefixes lead somewhere", n)
		}
		for _, k := range m.keys() {
			want, _ := Show(x, []string{k}, nil)
			got, _ := Show(x, append(append(slices.Clone(wrong), k), wrong...), under)
			also, _ := Show(x, wrong, append(append(slices.Clone(under), api.Prefix{Key: k, Bits: 256}), under...))
			if got != want || also != want {
				t.Fatalf("%d pairs: wrong keys and prefixes change what is shown for a right one", n)
			}
		}
	}
}

// P6.1: maps of many shapes, and much that is asked of them at once.
func TestManyShown(t *testing.T) {
	r := rand.New(rand.NewSource(63))
	for i := range 150 {
		m := some(r, i%25)
		for range 4 {
			v := isShown(t, m, someAsking(r, m))
			if i%5 == 0 && len(m) < 10 {
				v.is(t)
			}
		}
	}
}

// P6.1: in whatever order it is asked, and how often, the same is shown.
func TestOrderOfAsked(t *testing.T) {
	r := rand.New(rand.NewSource(64))
	for range 30 {
		m := some(r, 15)
		a := someAsking(r, m)
		want, _ := Show(m.made(), a.keys, a.under)
		for range 4 {
			keys, under := append(slices.Clone(a.keys), a.keys...), append(slices.Clone(a.under), a.under...)
			r.Shuffle(len(keys), func(i, j int) { keys[i], keys[j] = keys[j], keys[i] })
			r.Shuffle(len(under), func(i, j int) { under[i], under[j] = under[j], under[i] })
			if got, _ := Show(m.made(), keys, under); got != want {
				t.Fatal("another order, another text")
			}
		}
	}
}

// P6.1: any of the keys that were asked may be put, in any order, and behind that any of those of them that are there then deleted, each time with the map's new root.
func TestPutsThenDeletes(t *testing.T) {
	r := rand.New(rand.NewSource(65))
	for i := range 200 {
		m := some(r, i%15)
		keys := append(near(r, m, r.Intn(6)), near(r, m, 1)...)
		for _, k := range m.keys() {
			if r.Intn(2) == 0 {
				keys = append(keys, k)
			}
		}
		a := someAsking(r, m)
		a.keys = keys
		v := isShown(t, m, a)
		for range r.Intn(8) {
			var ok bool
			if v, ok = v.put(t, keys[r.Intn(len(keys))], val(r)); !ok {
				t.Fatal("a key that was asked isn't put")
			}
		}
		r.Shuffle(len(keys), func(i, j int) { keys[i], keys[j] = keys[j], keys[i] })
		for _, k := range keys {
			if _, there := v.m[k]; !there || r.Intn(4) == 0 {
				continue
			}
			var ok bool
			if v, ok = v.without(t, k); !ok {
				t.Fatal("a key that was asked, and is there, isn't deleted")
			}
		}
	}
}

// P6.1: all keys of a map are asked, deleted one by one, and put again.
func TestAllDeleted(t *testing.T) {
	r := rand.New(rand.NewSource(66))
	for n := range 12 {
		m := some(r, n)
		v := isShown(t, m, asking{keys: m.keys()})
		keys := m.keys()
		r.Shuffle(len(keys), func(i, j int) { keys[i], keys[j] = keys[j], keys[i] })
		for _, k := range keys {
			v, _ = v.without(t, k)
		}
		if v.p.Root() != trie.Empty() || v.p.Top() != nil {
			t.Fatal("something is left")
		}
		v.is(t)
		for _, k := range keys {
			v, _ = v.put(t, k, m[k])
		}
		if v.p.Root() != m.made().Root() {
			t.Fatal("another root than before")
		}
	}
}

// P6.1: what is shown has at most MaxBytes, all of its text; what isn't shown doesn't count.
func TestTooLong(t *testing.T) {
	k, other := lone(0), lone(1)
	fits := strings.Repeat("v", api.MaxBytes-43)
	x := trie.New().Put(k, fits)
	s, ok := Show(x, nil, nil)
	if !ok || len(s) != api.MaxBytes {
		t.Fatalf("%d bytes, %v", len(s), ok)
	}
	p, ok := Open(x.Root(), s)
	if val, there, known := p.Get(k); !ok || val != fits || !there || !known {
		t.Error("the longest text isn't opened")
	}
	x = trie.New().Put(k, fits+"v")
	if s, ok := Show(x, nil, nil); s != "" || ok {
		t.Errorf("a byte more: %d bytes, %v", len(s), ok)
	}
	x = x.Put(other, "small")
	if s, ok := Show(x, []string{k, other}, nil); s != "" || ok {
		t.Errorf("two, both asked: %d bytes, %v", len(s), ok)
	}
	s, ok = Show(x, []string{other}, nil)
	p, fine := Open(x.Root(), s)
	if val, _, _ := p.Get(other); !ok || !fine || val != "small" {
		t.Error("two, the smaller asked: not shown")
	}
}

// R4: what is handed to Show is as it was, and nothing is written behind it.
func TestShowChangesNothing(t *testing.T) {
	r := rand.New(rand.NewSource(67))
	for range 30 {
		m := some(r, 12)
		a := someAsking(r, m)
		keys, under := slices.Grow(slices.Clone(a.keys), 9), slices.Grow(slices.Clone(a.under), 9)
		x := m.made()
		Show(x, keys, under)
		if !slices.Equal(keys, a.keys) || !slices.Equal(under, a.under) || x.Root() != rootOf(m.tree()) {
			t.Fatal("what was handed in is another")
		}
		for _, k := range keys[len(keys):cap(keys)] {
			if k != "" {
				t.Fatal("something is written behind the keys")
			}
		}
		for _, u := range under[len(under):cap(under)] {
			if u != (api.Prefix{}) {
				t.Fatal("something is written behind the prefixes")
			}
		}
	}
}

// R4: neither a text nor a part keeps any of the memory that is handed in.
func TestKeepsNothing(t *testing.T) {
	m := model{hash("k"): "some value", flipped(hash("k"), 9): "", hash("l"): "l"}
	kb, vb := []byte(hash("k")), []byte("other value")
	k, val := unsafe.String(&kb[0], len(kb)), unsafe.String(&vb[0], len(vb))
	s, _ := Show(m.made(), []string{k}, []api.Prefix{{Key: k, Bits: 8}})
	sb, rb := []byte(s), []byte(m.made().Root())
	p, ok := Open(unsafe.String(&rb[0], len(rb)), unsafe.String(&sb[0], len(sb)))
	if !ok {
		t.Fatal("not opened")
	}
	q, _ := p.Put(k, val)
	q, _ = q.Put(flipped(k, 100), val[:5])
	clear(sb)
	clear(rb)
	clear(kb)
	clear(vb)
	shut := stubs(p.Top())
	version{p, m, shut}.is(t)
	version{q, model{hash("k"): "other value", flipped(hash("k"), 9): "", hash("l"): "l", flipped(hash("k"), 100): "other"}, shut}.is(t)
}
