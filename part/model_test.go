package part

import (
	"cmp"
	"crypto/sha256"
	"encoding/binary"
	"fmt"
	"maps"
	"math"
	"math/big"
	"math/rand"
	"reflect"
	"slices"
	"strings"
	"testing"
	"time"

	"vidimus/api"
	"vidimus/trie"
)

// model: a map as the chapters' words have it.
type model map[string]string

func hash(s string) string {
	sum := sha256.Sum256([]byte(s))
	return string(sum[:])
}

// digits: a key's bits, a letter each.
func digits(key string) string {
	out := make([]byte, 8*len(key))
	for i := range out {
		out[i] = '0' + key[i/8]>>(7-i%8)&1
	}
	return string(out)
}

// undigits: the key with these bits, filled up with 0.
func undigits(s string) string {
	n, _ := new(big.Int).SetString(s+strings.Repeat("0", 256-len(s)), 2)
	return string(n.FillBytes(make([]byte, 32)))
}

// lone: the key of which bit i alone is 1; that of 256 is all 0.
func lone(i int) string {
	return undigits((strings.Repeat("0", i) + "1")[:min(i+1, 256)])
}

// flipped: the key with another bit i.
func flipped(key string, i int) string {
	b := []byte(key)
	b[i/8] ^= 128 >> (i % 8)
	return string(b)
}

// under: the pairs whose keys' bits begin with these, rising.
func (m model) under(begin string) []api.Pair {
	var out []api.Pair
	for k, v := range m {
		if strings.HasPrefix(digits(k), begin) {
			out = append(out, api.Pair{Key: k, Val: v})
		}
	}
	slices.SortFunc(out, func(a, b api.Pair) int { return cmp.Compare(a.Key, b.Key) })
	return out
}

// keys: the model's, rising.
func (m model) keys() []string {
	return slices.Sorted(maps.Keys(m))
}

// tree: that of these pairs, which rise.
func tree(pairs []api.Pair) *api.Fork {
	switch len(pairs) {
	case 0:
		return nil
	case 1:
		return leafOf(pairs[0].Key, pairs[0].Val)
	}
	first, last := digits(pairs[0].Key), digits(pairs[len(pairs)-1].Key)
	at := 0
	for first[at] == last[at] {
		at++
	}
	half := slices.IndexFunc(pairs, func(p api.Pair) bool { return p.Key[at/8]>>(7-at%8)&1 == 1 })
	return forkOf(at, undigits(first[:at]), tree(pairs[:half]), tree(pairs[half:]))
}

func leafOf(key, val string) *api.Fork {
	return &api.Fork{Leaf: true, Key: key, Val: val, Hash: hash("\x00" + key + hash(val))}
}

// forkOf: of a place, first bits, and what stands below, whether that fits or not.
func forkOf(at int, key string, zero, one *api.Fork) *api.Fork {
	f := &api.Fork{At: at, Key: key, Zero: zero, One: one}
	f.Hash = hash("\x01" + string([]byte{byte(at >> 8), byte(at)}) + key + zero.Hash + one.Hash)
	return f
}

func stubOf(hash string) *api.Fork {
	return &api.Fork{Stub: true, Hash: hash}
}

func (m model) tree() *api.Fork {
	return tree(m.under(""))
}

func rootOf(f *api.Fork) string {
	if f == nil {
		return strings.Repeat("\x00", 32)
	}
	return f.Hash
}

// made: the map of the model's pairs.
func (m model) made() *trie.Trie {
	t := trie.New()
	for k, v := range m {
		t = t.Put(k, v)
	}
	return t
}

// The bytes of layer 3's nodes, as its chapter says them.
func sizeBytes(n int) string { return string(binary.AppendUvarint(nil, uint64(n))) }
func strBytes(s string) string {
	return "s" + sizeBytes(len(s)) + s
}
func numBytes(n uint64) string {
	b := strings.TrimLeft(string(binary.BigEndian.AppendUint64(nil, n)), "\x00")
	return "n" + sizeBytes(len(b)) + b
}
func listBytes(items ...string) string {
	return "l" + sizeBytes(len(items)) + strings.Join(items, "")
}

// items: the bytes of a tree's nodes, each ahead of what stands below it.
func items(f *api.Fork) []string {
	switch {
	case f == nil:
		return nil
	case f.Stub:
		return []string{strBytes(f.Hash)}
	case f.Leaf:
		return []string{listBytes(strBytes(f.Key), strBytes(f.Val))}
	}
	out := []string{listBytes(numBytes(uint64(f.At)), strBytes(f.Key))}
	return append(append(out, items(f.Zero)...), items(f.One)...)
}

func textOf(f *api.Fork) string {
	return listBytes(items(f)...)
}

// asking: the keys and prefixes for which something is shown.
type asking struct {
	keys  []string
	under []api.Prefix
}

// leads: whether one of them leads below the fork to that side ("0" or "1").
func (a asking) leads(f *api.Fork, side string) bool {
	first := digits(f.Key)[:f.At]
	for _, k := range a.keys {
		if len(k) == 32 && strings.HasPrefix(digits(k), first+side) {
			return true
		}
	}
	for _, p := range a.under {
		if len(p.Key) != 32 || p.Bits < 0 || p.Bits > 256 {
			continue
		}
		begin := digits(p.Key)[:p.Bits]
		if f.At < p.Bits && strings.HasPrefix(begin, first+side) || f.At >= p.Bits && strings.HasPrefix(first, begin) {
			return true
		}
	}
	return false
}

// shown: what is shown of a map's tree for them.
func (a asking) shown(f *api.Fork) *api.Fork {
	if f == nil || f.Leaf {
		return f
	}
	c := *f
	c.Zero, c.One = stubOf(f.Zero.Hash), stubOf(f.One.Hash)
	if a.leads(f, "0") {
		c.Zero = a.shown(f.Zero)
	}
	if a.leads(f, "1") {
		c.One = a.shown(f.One)
	}
	return &c
}

// stubs: the hashes of what is told by its hash alone.
func stubs(f *api.Fork) map[string]bool {
	out := map[string]bool{}
	walk(f, func(f *api.Fork) {
		if f.Stub {
			out[f.Hash] = true
		}
	})
	return out
}

// walk: do is called with each node of a tree, each ahead of what stands below it.
func walk(f *api.Fork, do func(*api.Fork)) {
	if f != nil {
		do(f)
		walk(f.Zero, do)
		walk(f.One, do)
	}
}

// cut: the tree, of which those with these hashes are told by them alone.
func cut(f *api.Fork, shut map[string]bool) *api.Fork {
	switch {
	case f == nil:
		return nil
	case shut[f.Hash]:
		return stubOf(f.Hash)
	}
	c := *f
	c.Zero, c.One = cut(f.Zero, shut), cut(f.One, shut)
	return &c
}

// version: a part, the map that it is of, and the hashes that are told alone.
type version struct {
	p    *Part
	m    model
	shut map[string]bool
}

// tree: the part's tree, by the model.
func (v version) tree() *api.Fork {
	return cut(v.m.tree(), v.shut)
}

// open: of the part's tree the pairs that are open, and the bits with which all keys begin that stand where the hash is told alone.
func open(f *api.Fork, begin string) (model, []string) {
	switch {
	case f == nil:
		return model{}, nil
	case f.Stub:
		return model{}, []string{begin}
	case f.Leaf:
		return model{f.Key: f.Val}, nil
	}
	first := digits(f.Key)[:f.At]
	m, shut := open(f.Zero, first+"0")
	n, more := open(f.One, first+"1")
	maps.Copy(m, n)
	return m, append(shut, more...)
}

// told: of what begins with these bits all pairs, rising, and whether all are known: those that are told by their hash alone may stand wherever the forks above let them.
func told(f *api.Fork, begin string) ([]api.Pair, bool) {
	m, shut := open(f, "")
	for _, s := range shut {
		if strings.HasPrefix(s, begin) || strings.HasPrefix(begin, s) {
			return nil, false
		}
	}
	return m.under(begin), true
}

// tells: the part tells of the key, and of its prefixes of so many bits, what the model does; and what is known is so in the map.
func (v version) tells(t *testing.T, key string, bits ...int) {
	t.Helper()
	f := v.tree()
	pairs, known := told(f, digits(key))
	want := append(pairs, api.Pair{})[0].Val
	val, there, knows := v.p.Get(key)
	if val != want || there != (len(pairs) > 0) || knows != known {
		t.Fatalf("Get(%x): %q, %v, %v; asked for %q, %v, %v", key, val, there, knows, want, len(pairs) > 0, known)
	}
	if has, ok := v.m[key]; knows && (ok != there || val != has) {
		t.Fatalf("Get(%x): %q, %v; in the map there is %q, %v", key, val, there, has, ok)
	}
	for _, n := range bits {
		pairs, known := told(f, digits(key)[:n])
		got, knows := v.p.Under(key, n)
		if !slices.Equal(got, pairs) || knows != known {
			t.Fatalf("Under(%x, %d): %d pairs, %v; asked for %d, %v", key, n, len(got), knows, len(pairs), known)
		}
		if knows && !slices.Equal(got, v.m.under(digits(key)[:n])) {
			t.Fatalf("Under(%x, %d): other pairs than the map has", key, n)
		}
	}
}

// isWhole: the part's root and tree are those of the model.
func (v version) isWhole(t *testing.T) {
	t.Helper()
	want := v.tree()
	if got := v.p.Root(); got != rootOf(want) || got != rootOf(v.m.tree()) {
		t.Fatalf("Root of %d pairs: %x, asked for %x", len(v.m), got, rootOf(want))
	}
	if got := v.p.Top(); !reflect.DeepEqual(got, want) {
		t.Fatalf("Top of %d pairs isn't their tree", len(v.m))
	}
}

// put: what Put of the part makes, if it ought to make anything.
func (v version) put(t *testing.T, key, val string) (version, bool) {
	t.Helper()
	_, known := told(v.tree(), digits(key))
	p, ok := v.p.Put(key, val)
	if ok != known || (p != nil) != known {
		t.Fatalf("Put(%x): %v, asked for %v", key, ok, known)
	}
	if !known {
		return version{}, false
	}
	m := maps.Clone(v.m)
	m[key] = val
	made := version{p, m, v.shut}
	made.isWhole(t)
	return made, true
}

// without: what Delete of the part makes, if it ought to make anything.
func (v version) without(t *testing.T, key string) (version, bool) {
	t.Helper()
	_, known := told(v.tree(), digits(key))
	p, ok := v.p.Delete(key)
	if ok != known || (p != nil) != known {
		t.Fatalf("Delete(%x): %v, asked for %v", key, ok, known)
	}
	if !known {
		return version{}, false
	}
	m := maps.Clone(v.m)
	delete(m, key)
	made := version{p, m, v.shut}
	made.isWhole(t)
	return made, true
}

// is: the part is the model's, in all that can be asked of it and made of it at the map's keys, and at those that part from them at and beside its forks.
func (v version) is(t *testing.T) {
	t.Helper()
	v.isWhole(t)
	bits := around(places(v.m.tree()))
	all := append(v.m.keys(), lone(256), strings.Repeat("\xff", 32), hash("elsewhere"))
	for _, k := range all {
		v.tells(t, k, bits...)
		v.put(t, k, "put")
		v.without(t, k)
		for _, n := range bits {
			if n < 256 {
				v.tells(t, flipped(k, n), n, n+1, 256)
				v.put(t, flipped(k, n), "")
				v.without(t, flipped(k, n))
			}
		}
	}
	isUnasked(t, v.p)
	v.isWhole(t)
}

// places: those of all forks of a tree.
func places(f *api.Fork) []int {
	var out []int
	walk(f, func(f *api.Fork) {
		if !f.Leaf && !f.Stub {
			out = append(out, f.At)
		}
	})
	return out
}

// around: 0, 256, and the numbers just ahead of, at and behind each of these.
func around(all []int) []int {
	out := []int{0, 1, 255, 256}
	for _, n := range all {
		out = append(out, max(n-1, 0), n, n+1, min(n+2, 256))
	}
	slices.Sort(out)
	return slices.Compact(out)
}

// wrongKeys: texts that are no keys.
func wrongKeys() []string {
	return []string{"", "\x00", "x", "short", strings.Repeat("\x00", 31), strings.Repeat("\x00", 33), strings.Repeat("\xff", 31), strings.Repeat("\xff", 33), strings.Repeat("k", 64), strings.Repeat("k", 1000)}
}

// wrongBits: numbers of bits that no prefix has.
func wrongBits() []int {
	return []int{-1, -2, -8, -256, -257, 257, 258, 264, 300, 512, 1 << 16, math.MinInt32, math.MaxInt32, math.MinInt, math.MinInt + 1, math.MaxInt - 1, math.MaxInt}
}

// isUnasked: of what is no key and no prefix there is nothing, which is known; nothing is put there, and nothing deleted.
func isUnasked(t *testing.T, p *Part) {
	t.Helper()
	for _, k := range append(wrongKeys(), longer(p.Top())...) {
		if val, there, known := p.Get(k); val != "" || there || !known {
			t.Fatalf("Get of %d bytes: %q, %v, %v", len(k), val, there, known)
		}
		for _, v := range []string{"", "val"} {
			if q, ok := p.Put(k, v); q != nil || ok {
				t.Fatalf("Put of %d bytes: %v", len(k), ok)
			}
		}
		if q, ok := p.Delete(k); q != nil || ok {
			t.Fatalf("Delete of %d bytes: %v", len(k), ok)
		}
		for _, n := range []int{0, 1, 8, 248, 256, -1, 257} {
			if got, known := p.Under(k, n); len(got) != 0 || !known {
				t.Fatalf("Under of %d bytes, %d bits: %d pairs, %v", len(k), n, len(got), known)
			}
		}
	}
	for _, n := range wrongBits() {
		if got, known := p.Under(lone(256), n); len(got) != 0 || !known {
			t.Fatalf("Under of %d bits: %d pairs, %v", n, len(got), known)
		}
	}
}

// longer: of an open key of the tree texts that begin it, and that it begins.
func longer(f *api.Fork) []string {
	var out []string
	walk(f, func(f *api.Fork) {
		if f.Leaf && out == nil {
			out = []string{f.Key[:1], f.Key[:31], f.Key + "\x00", f.Key + f.Key}
		}
	})
	return out
}

// some: a model of n pairs, the keys of which part from one another in bits of all kinds.
func some(r *rand.Rand, n int) model {
	m := model{}
	for len(m) < n {
		m[near(r, m, 1)[0]] = val(r)
	}
	return m
}

// near: n keys, most of which part from one of m's somewhere, and go on by chance behind that, or not.
func near(r *rand.Rand, m model, n int) []string {
	var out []string
	known := m.keys()
	for range n {
		k := text(r, 32)
		if len(known) > 0 && r.Intn(8) > 0 {
			k = known[r.Intn(len(known))]
			at := []int{0, 1, 7, 8, 9, 254, 255, r.Intn(256), r.Intn(256)}[r.Intn(9)]
			k = flipped(k, at)
			if r.Intn(3) == 0 {
				k = undigits(digits(k)[:at+1] + digits(text(r, 32))[at+1:])
			}
		}
		out = append(out, k)
	}
	return out
}

// text: n bytes of all kinds.
func text(r *rand.Rand, n int) string {
	b := make([]byte, n)
	r.Read(b)
	return string(b)
}

// val: a value: now and then of no byte, or one that looks like a hash.
func val(r *rand.Rand) string {
	switch r.Intn(6) {
	case 0:
		return ""
	case 1:
		return lone(256)
	case 2:
		return text(r, 32)
	}
	return text(r, r.Intn(100))
}

// someAsking: keys and prefixes, of the map and beside it, right ones or not, now and then none.
func someAsking(r *rand.Rand, m model) asking {
	var a asking
	all := append(append(m.keys(), near(r, m, 4)...), wrongKeys()...)
	bits := append(append(around(places(m.tree())), r.Intn(257), r.Intn(257)), wrongBits()...)
	for range r.Intn(5) {
		a.keys = append(a.keys, all[r.Intn(len(all))])
	}
	for range r.Intn(4) {
		a.under = append(a.under, api.Prefix{Key: all[r.Intn(len(all))], Bits: bits[r.Intn(len(bits))]})
	}
	return a
}

// someShut: the hashes of some nodes of the tree, by chance, the top's too.
func someShut(r *rand.Rand, f *api.Fork) map[string]bool {
	out, odds := map[string]bool{}, 2+r.Intn(6)
	walk(f, func(f *api.Fork) {
		if r.Intn(odds) == 0 {
			out[f.Hash] = true
		}
	})
	return out
}

// opened: the part of that tree.
func opened(t *testing.T, f *api.Fork) *Part {
	t.Helper()
	p, ok := Open(rootOf(f), textOf(f))
	if !ok || p == nil {
		t.Fatal("a part that isn't opened")
	}
	return p
}

// refused: the text isn't opened for that root.
func refused(t *testing.T, what, root, text string) {
	t.Helper()
	if p, ok := Open(root, text); p != nil || ok {
		t.Errorf("%s: opened", what)
	}
}

// soon: f ends, and soon.
func soon(t *testing.T, what string, f func()) {
	t.Helper()
	done := make(chan bool)
	go func() {
		defer close(done)
		f()
	}()
	select {
	case <-done:
	case <-time.After(time.Minute):
		t.Fatalf("%s: no end", what)
	}
}

// hundred: a map of as many pairs; chain: one with a fork at each place.
func hundred() model {
	m := model{}
	for i := range 100 {
		m[hash(fmt.Sprint(i))] = fmt.Sprint(i)
	}
	return m
}

func chain() model {
	m := model{lone(256): ""}
	for i := range 256 {
		m[lone(i)] = string([]byte{byte(i)})
	}
	return m
}
