package trie

import (
	"cmp"
	"crypto/sha256"
	"encoding/hex"
	"fmt"
	"math"
	"math/big"
	"math/rand"
	"reflect"
	"slices"
	"strings"
	"testing"
	"unsafe"

	"vidimus/api"
)

// model: a map as the chapter's words have it.
type model map[string]string

func hash(s string) string {
	sum := sha256.Sum256([]byte(s))
	return string(sum[:])
}

// digits: a key's bits, a letter each.
func digits(key string) string {
	var out [256]byte
	for i := range out {
		out[i] = '0' + key[i/8]>>(7-i%8)&1
	}
	return string(out[:])
}

// undigits: the key with these bits, filled up with 0.
func undigits(s string) string {
	n, _ := new(big.Int).SetString(s+strings.Repeat("0", 256-len(s)), 2)
	return string(n.FillBytes(make([]byte, 32)))
}

// single: the key of which bit i alone is 1; that of 256 is all 0.
func single(i int) string {
	if i == 256 {
		return undigits("0")
	}
	return undigits(strings.Repeat("0", i) + "1")
}

// flipped: the key with another bit i.
func flipped(key string, i int) string {
	b := []byte(key)
	b[i/8] ^= 128 >> (i % 8)
	return string(b)
}

// under: the pairs whose keys' bits begin with these, rising.
func (m model) under(begin string) []api.Pair {
	var out []api.Pair
	for k, v := range m {
		if strings.HasPrefix(digits(k), begin) {
			out = append(out, api.Pair{Key: k, Val: v})
		}
	}
	slices.SortFunc(out, func(a, b api.Pair) int { return cmp.Compare(a.Key, b.Key) })
	return out
}

// tree: the tree of these pairs, which rise.
func tree(pairs []api.Pair) *api.Fork {
	switch len(pairs) {
	case 0:
		return nil
	case 1:
		k, v := pairs[0].Key, pairs[0].Val
		return &api.Fork{Leaf: true, Key: k, Val: v, Hash: hash("\x00" + k + hash(v))}
	}
	first, last := digits(pairs[0].Key), digits(pairs[len(pairs)-1].Key)
	at := 0
	for first[at] == last[at] {
		at++
	}
	half := slices.IndexFunc(pairs, func(p api.Pair) bool { return digits(p.Key)[at] == '1' })
	f := &api.Fork{At: at, Key: undigits(first[:at]), Zero: tree(pairs[:half]), One: tree(pairs[half:])}
	f.Hash = hash("\x01\x00" + string([]byte{byte(at)}) + f.Key + f.Zero.Hash + f.One.Hash)
	return f
}

func (m model) root() string {
	f := tree(m.under(""))
	if f == nil {
		return strings.Repeat("\x00", 32)
	}
	return f.Hash
}

// made: the map of a model's pairs, put in the order of r.
func (m model) made(r *rand.Rand) *Trie {
	x, pairs := New(), m.under("")
	r.Shuffle(len(pairs), func(i, j int) { pairs[i], pairs[j] = pairs[j], pairs[i] })
	for _, p := range pairs {
		x = x.Put(p.Key, p.Val)
	}
	return x
}

// isWhole: x tells of itself as a whole what its model does.
func isWhole(t *testing.T, x *Trie, m model) {
	t.Helper()
	pairs := m.under("")
	if got := x.Len(); got != len(m) {
		t.Fatalf("Len: %d, asked for %d", got, len(m))
	}
	if got := x.All(); !slices.Equal(got, pairs) {
		t.Fatalf("All: %d pairs, %.200q; asked for %d, %.200q", len(got), got, len(pairs), pairs)
	}
	if got := x.Root(); got != m.root() {
		t.Fatalf("Root of %d pairs: %x, asked for %x", len(m), got, m.root())
	}
	if got := x.Top(); !reflect.DeepEqual(got, tree(pairs)) {
		t.Fatalf("Top of %d pairs isn't their tree", len(m))
	}
}

// tells: x tells of the key, and of its prefixes of so many bits, what its model does.
func tells(t *testing.T, x *Trie, m model, key string, all ...int) {
	t.Helper()
	want, wantOK := m[key]
	if got, ok := x.Get(key); got != want || ok != wantOK {
		t.Fatalf("Get(%x): %q, %v; asked for %q, %v", key, got, ok, want, wantOK)
	}
	for _, n := range all {
		want := m.under(digits(key)[:n])
		if got := x.Under(key, n); !slices.Equal(got, want) {
			t.Fatalf("Under(%x, %d): %d pairs, %.200q; asked for %d, %.200q", key, n, len(got), got, len(want), want)
		}
	}
}

// places: those of all forks of a tree.
func places(f *api.Fork) []int {
	if f == nil || f.Leaf {
		return nil
	}
	return append(append(places(f.Zero), f.At), places(f.One)...)
}

// around: 0, 256, and the numbers just ahead of, at and behind each of these.
func around(all []int) []int {
	out := []int{0, 1, 255, 256}
	for _, n := range all {
		out = append(out, max(n-1, 0), n, n+1, min(n+2, 256))
	}
	slices.Sort(out)
	return slices.Compact(out)
}

// isMap: x is the map of that model, in all that can be asked of it at its keys, and at keys that part from them at and beside its forks.
func isMap(t *testing.T, x *Trie, m model) {
	t.Helper()
	isWhole(t, x, m)
	bits := around(places(tree(m.under(""))))
	tells(t, x, m, single(256), bits...)
	tells(t, x, m, strings.Repeat("\xff", 32), bits...)
	for k := range m {
		tells(t, x, m, k, bits...)
		for _, n := range bits {
			if n < 256 {
				tells(t, x, m, flipped(k, n), n, n+1, 256)
			}
		}
	}
	isUnasked(t, x)
}

// wrongKeys: texts that are no keys.
func wrongKeys() []string {
	return []string{"", "\x00", "x", strings.Repeat("\x00", 31), strings.Repeat("\x00", 33), strings.Repeat("\xff", 31), strings.Repeat("\xff", 33), strings.Repeat("k", 64), strings.Repeat("k", 1000)}
}

// wrongBits: numbers of bits that no prefix has.
func wrongBits() []int {
	return []int{-1, -2, -8, -256, -257, 257, 258, 264, 512, 1 << 16, math.MinInt32, math.MaxInt32, math.MinInt, math.MinInt + 1, math.MaxInt - 1, math.MaxInt}
}

// isUnasked: of what is no key and no prefix x tells nothing, and it is what Put and Delete answer.
func isUnasked(t *testing.T, x *Trie) {
	t.Helper()
	for _, k := range wrongKeys() {
		if got, ok := x.Get(k); got != "" || ok {
			t.Fatalf("Get of %d bytes: %q, %v", len(k), got, ok)
		}
		if x.Put(k, "val") != x || x.Put(k, "") != x || x.Delete(k) != x {
			t.Fatalf("Put or Delete of %d bytes: another map", len(k))
		}
		for _, n := range []int{0, 1, 8, 248, 256, -1, 257} {
			if got := x.Under(k, n); len(got) != 0 {
				t.Fatalf("Under of %d bytes, %d bits: %d pairs", len(k), n, len(got))
			}
		}
	}
	for _, n := range wrongBits() {
		if got := x.Under(single(256), n); len(got) != 0 {
			t.Fatalf("Under of %d bits: %d pairs", n, len(got))
		}
	}
}

// unhex: the bytes of these digits.
func unhex(t *testing.T, s string) string {
	t.Helper()
	b, err := hex.DecodeString(s)
	if err != nil {
		t.Fatal(err)
	}
	return string(b)
}

// P5.1: roots that were worked out elsewhere.
func TestRootsKnown(t *testing.T) {
	abc, hundred, chain := model{}, model{}, model{single(256): ""}
	for _, c := range "abc" {
		abc[hash(string(c))] = "val " + string(c)
	}
	for i := range 100 {
		hundred[hash(fmt.Sprint(i))] = fmt.Sprint(i)
	}
	for i := range 256 {
		chain[single(i)] = string([]byte{byte(i)})
	}
	tests := []struct {
		name string
		m    model
		want string
	}{
		{"no pair", model{}, "0000000000000000000000000000000000000000000000000000000000000000"},
		{"one pair, no letter", model{single(256): ""}, "40e5593ce4cb1c4b17e6848b5d950f10e1985e036eb19e286eebe4e0a0bbfbcf"},
		{"two that part in bit 0", model{single(256): "a", single(0): "b"}, "9b3748da3c317266fe695a33f031ce47f9e77136c55bd8105690b1bfbdfa63d8"},
		{"two that part in bit 255", model{single(256): "v", single(255): "w"}, "89d6636cc83af705426dc219ac0c65cceb8f65607061f73a97f803fca0abb691"},
		{"two of bits 1", model{strings.Repeat("\xff", 32): "x", strings.Repeat("\xff", 31) + "\xfe": "y"}, "9ad3044731b1b508c28a2b1120fd3a8bfea3ba8e96846ae760e4683d08485dca"},
		{"three", abc, "eea776d1a9f8f93cfba8a310d0038f4759d972da605d9c5a8cd22d0a7d3825f6"},
		{"a hundred", hundred, "f40690993f0c7f80bd2884685ec562fd2924567b3c33e68c6de34183add94070"},
		{"a fork at each place", chain, "12a554a185e19b0476e7b97c84c2a65c6ccc6f4b61dc538d70091deca9378ade"},
	}
	r := rand.New(rand.NewSource(5))
	for _, x := range tests {
		for range 3 {
			made := x.m.made(r)
			if got := made.Root(); got != unhex(t, x.want) {
				t.Errorf("%s: %x", x.name, got)
			}
			isWhole(t, made, x.m)
		}
	}
}

// P5.1: the chapter's example.
func TestExample(t *testing.T) {
	for _, key := range []string{single(256), single(0), single(255), hash("k")} {
		x := New().Put(key, "val").Delete(key)
		if x.Root() != strings.Repeat("\x00", 32) {
			t.Errorf("%x", x.Root())
		}
		isMap(t, x, model{})
	}
}

// P5.1, R2: maps without pairs, whoever made them: all that is asked, and what is made of them.
func TestNoPair(t *testing.T) {
	key := hash("k")
	for _, x := range []*Trie{nil, New(), new(Trie), New().Delete(key), New().Put(key, "").Delete(key), (*Trie)(nil).Delete(key)} {
		isMap(t, x, model{})
		if x.Top() != nil || x.Root() != Empty() {
			t.Error("not empty")
		}
		isMap(t, x.Delete(key), model{})
		isMap(t, x.Put(key, "val"), model{key: "val"})
		isMap(t, x.Put(key, "").Put(single(3), "b"), model{key: "", single(3): "b"})
		isMap(t, x, model{})
	}
}

// P5.1: a map of one pair, whatever its key and value.
func TestOnePair(t *testing.T) {
	for _, k := range []string{single(256), single(0), single(255), strings.Repeat("\xff", 32), hash("k")} {
		for _, v := range []string{"", "\x00", "v", k, hash("v"), strings.Repeat("\x00", 32), strings.Repeat("ä\xff", 5000)} {
			x := New().Put(k, v)
			isMap(t, x, model{k: v})
			if x.Root() != LeafHash(k, v) {
				t.Errorf("%x isn't the leaf's hash", x.Root())
			}
			for i := range 256 {
				tells(t, x, model{k: v}, flipped(k, i), 0, i, i+1, 256)
			}
		}
	}
}

// P5.1: two pairs, parting in each bit that there is, put in both orders.
func TestTwoPairs(t *testing.T) {
	for _, k := range []string{single(256), strings.Repeat("\xff", 32), hash("two")} {
		for i := range 256 {
			other := flipped(k, i)
			m := model{k: "val", other: ""}
			x, y := New().Put(k, "val").Put(other, ""), New().Put(other, "").Put(k, "val")
			for _, x := range []*Trie{x, y} {
				isWhole(t, x, m)
				tells(t, x, m, k, 0, i, i+1, 256)
				tells(t, x, m, other, 0, i, i+1, 256)
				f := x.Top()
				if f.At != i || f.Leaf || f.Key != First(k, i) || !f.Zero.Leaf || !f.One.Leaf || f.Zero.Key != min(k, other) {
					t.Fatalf("parting in bit %d: %#v", i, *f)
				}
				isWhole(t, x.Delete(k), model{other: ""})
				isWhole(t, x.Delete(other), model{k: "val"})
				isWhole(t, x.Delete(other).Delete(k), model{})
			}
		}
		isMap(t, New().Put(k, "").Put(flipped(k, 0), "a"), model{k: "", flipped(k, 0): "a"})
		isMap(t, New().Put(k, "").Put(flipped(k, 255), "a"), model{k: "", flipped(k, 255): "a"})
	}
}

// P5.1: what Top shows of two pairs, hash by hash.
func TestTopKnown(t *testing.T) {
	zero, one := strings.Repeat("\x00", 32), strings.Repeat("\x00", 31)+"\x01"
	f := New().Put(one, "w").Put(zero, "").Top()
	a := api.Fork{Leaf: true, Key: zero, Hash: hash("\x00" + zero + hash(""))}
	b := api.Fork{Leaf: true, Key: one, Val: "w", Hash: hash("\x00" + one + hash("w"))}
	want := api.Fork{At: 255, Key: zero, Zero: &a, One: &b, Hash: hash("\x01\x00\xff" + zero + a.Hash + b.Hash)}
	if !reflect.DeepEqual(f, &want) {
		t.Errorf("%#v", *f)
	}
}

// P5.1: a fork's key has the bits ahead of its place alone.
func TestTopFirstBits(t *testing.T) {
	k := strings.Repeat("\xff", 32)
	for i := range 256 {
		f := New().Put(k, "").Put(flipped(k, i), "").Top()
		if f.Key != undigits(strings.Repeat("1", i)+"0") {
			t.Errorf("parting in bit %d: %x", i, f.Key)
		}
	}
}

// P5.1: a key put twice has its latest value, the empty text too, and is one key.
func TestPutTwice(t *testing.T) {
	r := rand.New(rand.NewSource(51))
	for range 30 {
		m := some(r, 1+r.Intn(12))
		x := m.made(r)
		for k := range m {
			for _, v := range []string{"", "again", "again", m[k], ""} {
				x = x.Put(k, v)
				m[k] = v
				isWhole(t, x, m)
				tells(t, x, m, k, 0, 255, 256)
			}
		}
	}
}

// P5.1, P5.2: put and deleted again, or deleted and put again, a key leaves the map as it was; deleted twice, it is gone once.
func TestThereAndBack(t *testing.T) {
	r := rand.New(rand.NewSource(52))
	for range 30 {
		m := some(r, r.Intn(12))
		x := m.made(r)
		for _, k := range append(near(r, m, 10), hash("none")) {
			if _, ok := m[k]; ok {
				continue
			}
			isWhole(t, x.Put(k, "").Delete(k), m)
			isWhole(t, x.Put(k, "v").Put(k, "w").Delete(k).Delete(k), m)
			isWhole(t, x.Delete(k), m)
		}
		for k, v := range m {
			isWhole(t, x.Delete(k).Put(k, v), m)
			isWhole(t, x.Delete(k).Delete(k).Put(k, v), m)
		}
	}
}

// P5.1: a map with a fork at each place, as deep as one can be: prefixes of each length.
func TestDeepest(t *testing.T) {
	k := hash("deep")
	m := model{k: ""}
	for i := range 256 {
		m[flipped(k, i)] = fmt.Sprint(i)
	}
	x := m.made(rand.New(rand.NewSource(53)))
	isWhole(t, x, m)
	var all []int
	for n := range 257 {
		all = append(all, n)
		if got := x.Under(k, n); len(got) != 257-n {
			t.Fatalf("Under of %d bits: %d pairs", n, len(got))
		}
	}
	for _, key := range []string{k, flipped(k, 0), flipped(k, 128), flipped(k, 255)} {
		tells(t, x, m, key, all...)
	}
	for i := range 256 {
		x = x.Delete(flipped(k, i))
		delete(m, flipped(k, i))
	}
	isMap(t, x, model{k: ""})
}

// P5.1: no bit of the key behind a prefix's matters, and each of it does.
func TestPrefixBits(t *testing.T) {
	r := rand.New(rand.NewSource(54))
	m := some(r, 20)
	x := m.made(r)
	for k := range m {
		for n := range 257 {
			want := m.under(digits(k)[:n])
			if n < 256 && !slices.Equal(x.Under(flipped(k, n), n), want) {
				t.Fatalf("Under of %d bits hangs on bit %d", n, n)
			}
			if n > 0 && !slices.Equal(x.Under(flipped(k, n-1), n), m.under(digits(flipped(k, n-1))[:n])) {
				t.Fatalf("Under of %d bits doesn't hang on bit %d", n, n-1)
			}
		}
	}
}

// P5.1, P5.2: maps of many shapes, each put in several orders, in all that can be asked of them.
func TestManyMaps(t *testing.T) {
	r := rand.New(rand.NewSource(55))
	for i := range 60 {
		m := some(r, i%20)
		for range 3 {
			isMap(t, m.made(r), m)
		}
	}
}

// some: a model of up to n pairs, the keys of which part from one another in bits of all kinds.
func some(r *rand.Rand, n int) model {
	m := model{}
	for len(m) < n {
		k := near(r, m, 1)[0]
		m[k] = val(r)
	}
	return m
}

// near: n keys, most of which part from one of m's somewhere, and go on by chance behind that, or not.
func near(r *rand.Rand, m model, n int) []string {
	var out []string
	known := m.under("")
	for range n {
		k := text(r, 32)
		if len(known) > 0 && r.Intn(8) > 0 {
			k = known[r.Intn(len(known))].Key
			at := []int{0, 1, 7, 8, 9, 254, 255, r.Intn(256), r.Intn(256)}[r.Intn(9)]
			k = flipped(k, at)
			if r.Intn(3) == 0 {
				k = undigits(digits(k)[:at+1] + digits(text(r, 32))[at+1:])
			}
		}
		out = append(out, k)
	}
	return out
}

// text: n bytes of all kinds.
func text(r *rand.Rand, n int) string {
	b := make([]byte, n)
	r.Read(b)
	return string(b)
}

// val: a value: now and then of no byte, or one that looks like a hash.
func val(r *rand.Rand) string {
	switch r.Intn(6) {
	case 0:
		return ""
	case 1:
		return Empty()
	case 2:
		return text(r, 32)
	}
	return text(r, r.Intn(100))
}

// P5.2: the same pairs have the same root, whatever led to them: each order of five keys, with other keys and values on the way.
func TestOrders(t *testing.T) {
	r := rand.New(rand.NewSource(56))
	for range 20 {
		m := some(r, 5)
		pairs, want := m.under(""), m.root()
		orders(len(pairs), func(order []int) {
			x := New()
			for _, i := range order {
				aside := near(r, m, 1)[0]
				if _, ok := m[aside]; !ok {
					x = x.Put(aside, "aside").Put(pairs[i].Key, "other").Delete(aside)
				}
				x = x.Put(pairs[i].Key, pairs[i].Val)
			}
			if x.Root() != want || x.Len() != len(pairs) || !slices.Equal(x.All(), pairs) {
				t.Fatalf("in the order %v: %x, asked for %x", order, x.Root(), want)
			}
		})
	}
}

// orders: f is called with each order of the numbers below n.
func orders(n int, f func([]int)) {
	var extend func(order []int)
	extend = func(order []int) {
		if len(order) == n {
			f(order)
			return
		}
		for i := range n {
			if !slices.Contains(order, i) {
				extend(append(slices.Clone(order), i))
			}
		}
	}
	extend(nil)
}

// P5.2: unlike pairs have unlike roots: all maps of some keys, each with one of some values, or none.
func TestUnlikeRoots(t *testing.T) {
	keys := []string{single(256), single(255), single(0), single(1), flipped(single(0), 255), strings.Repeat("\xff", 32)}
	vals := []string{"", "a", Empty()}
	maps := []*Trie{New()}
	for _, k := range keys {
		for _, x := range maps {
			for _, v := range vals {
				maps = append(maps, x.Put(k, v))
			}
		}
	}
	if len(maps) != 4096 {
		t.Fatal(len(maps))
	}
	seen := map[string]int{}
	for i, x := range maps {
		if j, ok := seen[x.Root()]; ok {
			t.Errorf("%q and %q have one root", maps[j].All(), x.All())
		}
		seen[x.Root()] = i
	}
}

// P5.2: a value may be moved to no other key, nor a bit of key or value turned, without the root being another one.
func TestRootsHangOnAll(t *testing.T) {
	r := rand.New(rand.NewSource(57))
	m := some(r, 15)
	x := m.made(r)
	seen := map[string]bool{x.Root(): true}
	isNew := func(what string, y *Trie) {
		t.Helper()
		if seen[y.Root()] {
			t.Errorf("%s: a root that was there", what)
		}
		seen[y.Root()] = true
	}
	for k, v := range m {
		isNew("deleted", x.Delete(k))
		isNew("a byte more", x.Put(k, v+"\x00"))
		for i := range v {
			isNew("a byte of a value", x.Put(k, v[:i]+string([]byte{v[i] ^ 1})+v[i+1:]))
		}
		for i := range 256 {
			if _, ok := m[flipped(k, i)]; !ok {
				isNew("moved", x.Delete(k).Put(flipped(k, i), v))
				isNew("twice", x.Put(flipped(k, i), v))
			}
		}
	}
}

// version: a map, and what it is.
type version struct {
	x *Trie
	m model
}

// spoil: what x answers is changed wherever that can be done.
func spoil(x *Trie, key string) {
	for _, l := range [][]api.Pair{x.All(), x.Under(key, 0), x.Under(key, 1), x.Under(key, 256)} {
		for i := range l {
			l[i] = api.Pair{Key: "spoilt", Val: "spoilt"}
		}
		_ = append(l[:0], api.Pair{Key: "more"})
	}
	spoilTree(x.Top())
}

func spoilTree(f *api.Fork) {
	if f == nil {
		return
	}
	spoilTree(f.Zero)
	spoilTree(f.One)
	*f = api.Fork{Stub: true, Key: "spoilt", Val: "spoilt", At: -1, Hash: "spoilt"}
}

// P5.1, P5.2, P5.3: calls in any order, of any map that was made ahead; all of them are as they were at the end.
func TestAnyOrder(t *testing.T) {
	r := rand.New(rand.NewSource(58))
	for range 6 {
		all := []version{{nil, model{}}, {New(), model{}}}
		for range 150 {
			from := all[max(r.Intn(len(all)), r.Intn(len(all)))]
			k := near(r, from.m, 1)[0]
			if known := from.m.under(""); len(known) > 0 && r.Intn(2) == 0 {
				k = known[r.Intn(len(known))].Key
			}
			m := model{}
			for key, v := range from.m {
				m[key] = v
			}
			if r.Intn(3) == 0 {
				delete(m, k)
				all = append(all, version{from.x.Delete(k), m})
			} else {
				m[k] = val(r)
				all = append(all, version{from.x.Put(k, m[k]), m})
			}
			isWhole(t, all[len(all)-1].x, m)
			tells(t, from.x, from.m, k, 0, 1, 8, 255, 256)
			spoil(from.x, k)
			isWhole(t, from.x, from.m)
		}
		for _, v := range all {
			isMap(t, v.x, v.m)
		}
	}
}

// P5.3: a map is as it was behind each kind of call of it, and of those that are made of it.
func TestAsItWas(t *testing.T) {
	r := rand.New(rand.NewSource(59))
	for n := range 12 {
		m := some(r, n)
		x := m.made(r)
		kept := *x
		for _, k := range append(near(r, m, 6), append(wrongKeys(), keys(m)...)...) {
			for _, y := range []*Trie{x.Put(k, "new"), x.Put(k, ""), x.Delete(k), x.Put(k, "new").Delete(k), x.Delete(k).Put(k, "new")} {
				if y == x && len(k) == 32 {
					t.Fatal("what Put and Delete make isn't another map")
				}
				spoil(y, k)
			}
			isWhole(t, x, m)
		}
		spoil(x, single(256))
		isMap(t, x, m)
		if *x != kept {
			t.Error("other fields than before")
		}
	}
}

func keys(m model) []string {
	var out []string
	for k := range m {
		out = append(out, k)
	}
	return out
}

// R4: what is answered is the caller's own: two answers share nothing.
func TestAnswersAreOwn(t *testing.T) {
	r := rand.New(rand.NewSource(60))
	m := some(r, 9)
	x := m.made(r)
	a, b := x.Top(), x.Top()
	spoilTree(a)
	if !reflect.DeepEqual(b, tree(m.under(""))) {
		t.Error("two trees share memory")
	}
	k := single(256)
	l, u := x.All(), x.Under(k, 0)
	clear(l)
	if !slices.Equal(u, m.under("")) || !slices.Equal(x.All(), m.under("")) {
		t.Error("two lists share memory")
	}
}

// R4: a map keeps none of the memory that is handed in.
func TestKeepsNothing(t *testing.T) {
	k, v := hash("k"), "some value"
	kb, vb := []byte(k), []byte(v)
	x := New().Put(unsafe.String(&kb[0], len(kb)), unsafe.String(&vb[0], len(vb)))
	y := x.Put(flipped(unsafe.String(&kb[0], len(kb)), 9), unsafe.String(&vb[0], 4))
	z := y.Put(unsafe.String(&kb[0], len(kb)), unsafe.String(&vb[0], 4))
	clear(kb)
	clear(vb)
	isMap(t, x, model{k: v})
	isMap(t, y, model{k: v, flipped(k, 9): "some"})
	isMap(t, z, model{k: "some", flipped(k, 9): "some"})
}

// P5.1: 32 bytes 0.
func TestEmpty(t *testing.T) {
	if Empty() != strings.Repeat("\x00", 32) {
		t.Errorf("%x", Empty())
	}
}

// P5.1: a leaf's hash, of the key and the value's hash.
func TestLeafHash(t *testing.T) {
	for _, k := range []string{single(256), single(0), strings.Repeat("\xff", 32), hash("k")} {
		for _, v := range []string{"", "v", hash("v"), k, strings.Repeat("long", 1000)} {
			if got := LeafHash(k, v); got != hash("\x00"+k+hash(v)) {
				t.Errorf("of %x, %.40q: %x", k, v, got)
			}
		}
	}
}

// P5.1: a fork's hash, of its place in two bytes, the higher first, its first bits, and two hashes.
func TestForkHash(t *testing.T) {
	k, zero, one := undigits("101"), hash("zero"), hash("one")
	tests := []struct {
		at    int
		place string
	}{
		{0, "\x00\x00"}, {1, "\x00\x01"}, {3, "\x00\x03"}, {127, "\x00\x7f"}, {128, "\x00\x80"}, {255, "\x00\xff"},
		{256, "\x01\x00"}, {257, "\x01\x01"}, {0x1234, "\x12\x34"}, {32768, "\x80\x00"}, {65535, "\xff\xff"},
	}
	for _, x := range tests {
		if got := ForkHash(x.at, k, zero, one); got != hash("\x01"+x.place+k+zero+one) {
			t.Errorf("place %d: %x", x.at, got)
		}
		if ForkHash(x.at, k, zero, one) == ForkHash(x.at, k, one, zero) {
			t.Errorf("place %d: the sides are one", x.at)
		}
	}
}

// P5.1: each bit of some keys, the highest of a byte first.
func TestBit(t *testing.T) {
	for _, k := range []string{single(256), strings.Repeat("\xff", 32), hash("a"), hash("b")} {
		d := digits(k)
		for i := range 256 {
			if got := Bit(k, i); got != d[i]-'0' {
				t.Errorf("bit %d of %x: %d", i, k, got)
			}
		}
	}
	for i := range 256 {
		for j := range 256 {
			if got := Bit(single(i), j); (got == 1) != (i == j) || got > 1 {
				t.Errorf("bit %d of the key with bit %d alone: %d", j, i, got)
			}
		}
	}
}

// P5.1: how many first bits two keys have in common, whatever they have behind these.
func TestCommon(t *testing.T) {
	for _, k := range []string{single(256), strings.Repeat("\xff", 32), hash("a"), hash("b")} {
		if got := Common(k, k); got != 256 {
			t.Errorf("of one key: %d", got)
		}
		for i := range 256 {
			d := digits(flipped(k, i))
			for _, behind := range []string{d, digits(hash("c")), digits(single(256)), digits(strings.Repeat("\xff", 32))} {
				other := undigits(d[:i+1] + behind[i+1:])
				if Common(k, other) != i || Common(other, k) != i {
					t.Errorf("of %x and %x: %d, %d", k, other, Common(k, other), Common(other, k))
				}
			}
		}
	}
}

// P5.1: the first bits of a key, filled up with 0.
func TestFirst(t *testing.T) {
	for _, k := range []string{single(256), single(255), strings.Repeat("\xff", 32), hash("a"), hash("b")} {
		for n := range 257 {
			if got := First(k, n); got != undigits(digits(k)[:n]+"0"[:min(1, 256-n)]) {
				t.Errorf("the first %d of %x: %x", n, k, got)
			}
		}
	}
}

// P0: whatever isn't a key, or names no bit, is answered somehow, soon, and without a panic.
func TestWrongOfKeys(t *testing.T) {
	all := append(wrongKeys(), single(256), hash("k"))
	numbers := append(wrongBits(), 0, 1, 255, 256, 65535, 65536)
	for _, a := range all {
		for _, n := range numbers {
			Bit(a, n)
			First(a, n)
			for _, b := range all {
				Common(a, b)
				if len(ForkHash(n, a, b, a)) != 32 || len(LeafHash(a, b)) != 32 {
					t.Errorf("a hash of %d, %x, %x hasn't 32 bytes", n, a, b)
				}
			}
		}
	}
}
