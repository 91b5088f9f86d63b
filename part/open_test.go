package part

import (
	"fmt"
	"maps"
	"math"
	"math/rand"
	"reflect"
	"slices"
	"strings"
	"testing"

	"vidimus/api"
	"vidimus/codec"
	"vidimus/trie"
)

// R2: of no part there is nothing.
func TestNil(t *testing.T) {
	var p *Part
	for _, k := range append(wrongKeys(), lone(256), hash("k")) {
		if val, there, known := p.Get(k); val != "" || there || known {
			t.Errorf("Get: %q, %v, %v", val, there, known)
		}
		for _, n := range append(wrongBits(), 0, 1, 256) {
			if l, known := p.Under(k, n); len(l) > 0 || known {
				t.Errorf("Under: %v, %v", l, known)
			}
		}
		if q, ok := p.Put(k, "val"); q != nil || ok {
			t.Error("Put")
		}
		if q, ok := p.Delete(k); q != nil || ok {
			t.Error("Delete")
		}
	}
	if p.Root() != "" || p.Top() != nil {
		t.Errorf("%x, %v", p.Root(), p.Top())
	}
}

// P6.2: whatever of a map's tree is told by its hash alone, what is known is so in the map, what is put and deleted leads to its new root, and where what is open doesn't tell, it is refused.
func TestSound(t *testing.T) {
	r := rand.New(rand.NewSource(71))
	for i := range 60 {
		m := some(r, i%12)
		for range 3 {
			f := m.tree()
			shut := someShut(r, f)
			version{opened(t, cut(f, shut)), m, shut}.is(t)
		}
	}
}

// P6.2: a part of which nothing is open tells its root, and nothing else.
func TestNothingOpen(t *testing.T) {
	m := hundred()
	for _, root := range []string{rootOf(m.tree()), hash("no map"), lone(256), strings.Repeat("\xff", 32)} {
		p := opened(t, stubOf(root))
		if p.Root() != root || !reflect.DeepEqual(p.Top(), stubOf(root)) {
			t.Fatalf("%x: %v", root, p.Top())
		}
		for _, k := range append(m.keys()[:5], lone(256), root) {
			if val, there, known := p.Get(k); val != "" || there || known {
				t.Fatal("Get")
			}
			for _, n := range []int{0, 1, 255, 256} {
				if l, known := p.Under(k, n); len(l) > 0 || known {
					t.Fatal("Under")
				}
			}
			if q, ok := p.Put(k, "val"); q != nil || ok {
				t.Fatal("Put")
			}
			if q, ok := p.Delete(k); q != nil || ok {
				t.Fatal("Delete")
			}
		}
		isUnasked(t, p)
	}
}

// P6.2: puts and deletes in any order, of any part that was made ahead; all of them are as they were at the end.
func TestAnyOrder(t *testing.T) {
	r := rand.New(rand.NewSource(72))
	for i := range 12 {
		m := some(r, 2*i)
		shut := someShut(r, m.tree())
		all := []version{{opened(t, cut(m.tree(), shut)), m, shut}, isShown(t, m, someAsking(r, m))}
		for range 120 {
			from := all[max(r.Intn(len(all)), r.Intn(len(all)))]
			k := near(r, from.m, 1)[0]
			if known := from.m.keys(); len(known) > 0 && r.Intn(2) == 0 {
				k = known[r.Intn(len(known))]
			}
			made, ok := from.without(t, k)
			if r.Intn(2) == 0 {
				made, ok = from.put(t, k, val(r))
			}
			if ok {
				all = append(all, made)
			}
			from.tells(t, k, 0, 1, 8, 255, 256)
			spoil(from.p, k)
			from.isWhole(t)
		}
		for _, v := range all {
			v.isWhole(t)
			for _, k := range near(r, v.m, 3) {
				v.tells(t, k, 0, 1, 8, 255, 256)
			}
		}
	}
}

// P6.2: beside what is told by its hash alone: what may be put and deleted, and what may not.
func TestBesideStubs(t *testing.T) {
	key := undigits
	// On the side of 0 a fork at 2, with a leaf, and with a fork at 6, which is told alone; on that of 1 a leaf, which is, too.
	a, b, c, d := key("010"), key("0111010"), key("0111011"), key("1")
	m := model{a: "a", b: "b", c: "c", d: "d"}
	f := m.tree()
	low := f.Zero.One
	if f.At != 0 || f.Zero.At != 2 || low.At != 6 {
		t.Fatal("another tree than was meant")
	}
	lowShut := map[string]bool{low.Hash: true, f.One.Hash: true}
	v := version{opened(t, cut(f, lowShut)), m, lowShut}
	tests := []struct {
		name, key string
		known     bool
	}{
		{"where its value is open", a, true},
		{"parting from an open leaf", key("01011"), true},
		{"parting from an open fork's first bits", key("00"), true},
		{"told by its hash alone", b, false},
		{"parting from what is told alone in first bits that aren't told", key("01101"), false},
		{"parting from what is told alone behind its place", key("01110101"), false},
		{"beside a leaf that is told alone", key("11"), false},
		{"a leaf that is told alone", d, false},
	}
	for _, x := range tests {
		if _, ok := v.put(t, x.key, "new"); ok != x.known {
			t.Errorf("put %s: %v", x.name, ok)
		}
		if _, ok := v.without(t, x.key); ok != x.known {
			t.Errorf("delete %s: %v", x.name, ok)
		}
		v.tells(t, x.key, 0, 1, 2, 3, 6, 7, 256)
	}
	// Without the leaf what stands beside it takes their fork's place, by its hash alone; its first bits are told no more.
	gone, ok := v.without(t, a)
	if !ok || !gone.p.Top().Zero.Stub || gone.p.Top().Zero.Hash != low.Hash {
		t.Fatal("what is told alone doesn't take the fork's place")
	}
	if _, _, known := gone.p.Get(key("00")); known {
		t.Error("known of what is told alone")
	}
	if _, ok := gone.put(t, a, "a"); ok {
		t.Error("put where nothing is open any more")
	}
	// Put ahead of that, there is a fork above it again.
	aside, _ := v.put(t, key("00"), "aside")
	aside, ok = aside.without(t, a)
	if _, _, known := aside.p.Get(key("00")); !ok || !known {
		t.Error("put ahead, and not known")
	}
	aside.is(t)
}

// P6.2: of two pairs one is deleted, of which alone the value was shown: what is left is told by its hash alone.
func TestStubAtTop(t *testing.T) {
	for _, i := range []int{0, 1, 128, 255} {
		k, other := lone(256), lone(i)
		v := isShown(t, model{k: "val", other: "other"}, asking{keys: []string{k}})
		v, ok := v.without(t, k)
		if !ok || v.p.Root() != hash("\x00"+other+hash("other")) || !v.p.Top().Stub {
			t.Fatal("not what is left")
		}
		for _, k := range []string{k, other} {
			if _, _, known := v.p.Get(k); known {
				t.Error("known")
			}
			if _, ok := v.put(t, k, "new"); ok {
				t.Error("put")
			}
			if _, ok := v.without(t, k); ok {
				t.Error("deleted")
			}
		}
	}
}

// P6.2: a key that is known not to be there is deleted, and the part stays as it is.
func TestDeleteOfNone(t *testing.T) {
	r := rand.New(rand.NewSource(73))
	for n := range 10 {
		m := some(r, n)
		none := hash("none")
		v := isShown(t, m, asking{keys: []string{none}})
		for range 3 {
			gone, ok := v.without(t, none)
			if !ok || gone.p.Root() != m.made().Root() || !reflect.DeepEqual(gone.p.Top(), v.p.Top()) {
				t.Fatal("another part")
			}
			v = gone
		}
	}
}

// deep: a tree of which a fork at 8 stands below one at 3, with a leaf on each side of both.
func deep() *api.Fork {
	return model{undigits("0001"): "right", undigits("00000000"): "a", undigits("000000001"): "b"}.tree()
}

// P6.2: texts whose root is just what they hash to, but that say what no map's tree does.
func TestWrongTrees(t *testing.T) {
	zero, long := lone(256), lone(256)+"\x00"
	leafA, leafB := leafOf(zero, "a"), leafOf(lone(8), "b")
	right := leafOf(lone(3), "right")
	low := forkOf(8, zero, leafA, leafB)
	if want := forkOf(3, zero, low, right); !reflect.DeepEqual(opened(t, want).Top(), deep()) {
		t.Fatal("the right tree isn't opened")
	}
	shut := stubOf(hash("any"))
	tests := []struct {
		name string
		f    *api.Fork
	}{
		{"a leaf of 0 on the side of 1", forkOf(3, zero, shut, leafA)},
		{"a leaf of 1 on the side of 0", forkOf(3, zero, right, shut)},
		{"two leaves, swapped", forkOf(3, zero, right, leafA)},
		{"a fork of 0 on the side of 1", forkOf(3, zero, shut, low)},
		{"a fork of 1 on the side of 0", forkOf(3, zero, forkOf(8, lone(3), shut, shut), shut)},
		{"a leaf without the fork's first bits", forkOf(3, zero, leafOf(lone(0), ""), shut)},
		{"a leaf without the last of the fork's first bits", forkOf(3, zero, shut, leafOf(undigits("0011"), ""))},
		{"a fork without the fork's first bits", forkOf(3, zero, forkOf(8, lone(0), shut, shut), shut)},
		{"a fork without the last of the fork's first bits", forkOf(3, zero, shut, forkOf(8, undigits("0011"), shut, shut))},
		{"a place as that of the fork above", forkOf(3, zero, forkOf(3, zero, shut, shut), shut)},
		{"a place as that of the fork above, on the side of 1", forkOf(0, zero, shut, forkOf(0, zero, shut, shut))},
		{"a place below that of the fork above", forkOf(8, zero, forkOf(3, zero, shut, shut), shut)},
		{"a place below that of the fork above, with its bit", forkOf(3, zero, shut, forkOf(2, zero, shut, shut))},
		{"a place just below, last ones", forkOf(255, zero, forkOf(254, zero, shut, shut), shut)},
		{"first bits that aren't filled up with 0, at the place", forkOf(3, lone(3), shut, shut)},
		{"first bits that aren't filled up with 0, behind it", forkOf(3, lone(4), shut, shut)},
		{"first bits that aren't filled up with 0, in the last bit", forkOf(3, lone(255), shut, shut)},
		{"first bits that aren't filled up with 0, at place 0", forkOf(0, lone(0), shut, shut)},
		{"first bits that aren't filled up with 0, at place 255", forkOf(255, lone(255), shut, shut)},
		{"first bits that aren't filled up with 0, below a fork", forkOf(3, zero, forkOf(8, lone(8), shut, shut), shut)},
		{"first bits of no byte", forkOf(0, "", shut, shut)},
		{"first bits of 31 bytes", forkOf(3, zero[:31], shut, shut)},
		{"first bits of 33 bytes", forkOf(3, long, shut, shut)},
		{"first bits of 31 bytes, below a fork", forkOf(3, zero, forkOf(8, zero[:31], shut, shut), shut)},
		{"a key of no byte", leafOf("", "v")},
		{"a key of 31 bytes", leafOf(zero[:31], "v")},
		{"a key of 33 bytes", leafOf(long, "v")},
		{"a key of 31 bytes, below a fork", forkOf(3, zero, leafOf(zero[:31], "v"), shut)},
		{"a key of 33 bytes, below a fork", forkOf(3, zero, leafOf(long, "v"), shut)},
		{"a hash of no byte", stubOf("")},
		{"a hash of 31 bytes", stubOf(zero[:31])},
		{"a hash of 33 bytes", stubOf(long)},
		{"a hash of 31 bytes, below a fork", forkOf(3, zero, stubOf(zero[:31]), shut)},
		{"a hash of 33 bytes, below a fork", forkOf(3, zero, shut, stubOf(long))},
		{"place 256", forkOf(256, zero, shut, shut)},
		{"place 256, below place 255", forkOf(255, zero, forkOf(256, zero, shut, shut), shut)},
		{"place 257", forkOf(257, zero, shut, shut)},
		{"place 65535", forkOf(65535, zero, shut, shut)},
		{"place 65536", forkOf(65536, zero, shut, shut)},
		{"place 65539, as two bytes that of 3", forkOf(65539, zero, shut, shut)},
		{"place 2^32 + 3", forkOf(1<<32+3, zero, shut, shut)},
		{"the greatest place", forkOf(math.MaxInt, zero, shut, shut)},
		{"a place below 0", forkOf(-1, zero, shut, shut)},
		{"the lowest place, as two bytes that of 0", forkOf(math.MinInt, zero, shut, shut)},
	}
	for _, x := range tests {
		refused(t, x.name, x.f.Hash, textOf(x.f))
		above := forkOf(0, zero, x.f, shut)
		refused(t, x.name+", further down", above.Hash, textOf(above))
	}
}

// P6.2: trees that are just right, at the edges that the wrong ones pass.
func TestRightTrees(t *testing.T) {
	zero, ones := lone(256), strings.Repeat("\xff", 32)
	shut, none := stubOf(hash("any")), stubOf(lone(256))
	tests := []struct {
		name string
		f    *api.Fork
	}{
		{"places 0 and 1", forkOf(0, zero, shut, forkOf(1, lone(0), shut, none))},
		{"places 254 and 255", forkOf(254, zero, shut, forkOf(255, lone(254), shut, shut))},
		{"places 0 and 255", forkOf(0, zero, forkOf(255, zero, shut, shut), shut)},
		{"first bits 1 up to place 255", forkOf(255, flipped(ones, 255), leafOf(flipped(ones, 255), ""), leafOf(ones, ""))},
		{"leaves with other bits behind the place", forkOf(3, zero, leafOf(undigits("00001"), ""), leafOf(undigits("00011"), "\x00"))},
		{"a fork whose first bits are 1 behind the place above", forkOf(3, zero, forkOf(9, undigits("000011111"), shut, shut), shut)},
		{"a hash told twice", forkOf(7, zero, shut, shut)},
		{"a leaf of a hash", leafOf(ones, hash("v"))},
		{"a hash of 32 bytes 0", none},
	}
	for _, x := range tests {
		p, ok := Open(x.f.Hash, textOf(x.f))
		if !ok || p.Root() != x.f.Hash || !reflect.DeepEqual(p.Top(), x.f) {
			t.Errorf("%s: %v", x.name, ok)
		}
	}
}

// P6.2: texts that are none of a tree's nodes, each ahead of what stands below it, whatever root might be meant.
func TestWrongTexts(t *testing.T) {
	zero, shut := lone(256), stubOf(hash("any"))
	l := leafOf(zero, "v")
	f := forkOf(3, zero, shut, leafOf(lone(3), "v"))
	leafBytes, stubBytes, forkBytes := items(l)[0], items(shut)[0], items(f)[0]
	ones := items(f)[2]
	// What a list or a number has no text for, might be taken for the empty one.
	roots := []string{lone(256), hash("any"), l.Hash, f.Hash, leafOf(lone(3), "v").Hash, leafOf(zero, "").Hash, forkOf(3, zero, shut, leafOf(lone(3), "")).Hash, ""}
	tests := []struct {
		name, text string
	}{
		{"no byte", ""},
		{"no node", "x"},
		{"a number", numBytes(3)},
		{"a text", stubBytes},
		{"a leaf that isn't in a list", leafBytes},
		{"a fork that isn't in a list", forkBytes},
		{"a list in a list", listBytes(listBytes(leafBytes))},
		{"a byte behind it", textOf(l) + "\x00"},
		{"a node behind it", textOf(l) + stubBytes},
		{"a kid more than there is", "l\x02" + leafBytes},
		{"a kid less than there is", "l\x02" + forkBytes + stubBytes + ones},
		{"a size in two bytes", "l\x81\x00" + leafBytes},
		{"a number", listBytes(numBytes(3))},
		{"an empty list", listBytes(listBytes())},
		{"two leaves", listBytes(leafBytes, leafBytes)},
		{"a leaf and a hash", listBytes(leafBytes, stubBytes)},
		{"a hash and a leaf", listBytes(stubBytes, leafBytes)},
		{"two hashes", listBytes(stubBytes, stubBytes)},
		{"a fork alone", listBytes(forkBytes)},
		{"a fork with one side", listBytes(forkBytes, stubBytes)},
		{"a fork with three sides", listBytes(forkBytes, stubBytes, ones, stubBytes)},
		{"a fork behind its sides", listBytes(stubBytes, ones, forkBytes)},
		{"a fork between its sides", listBytes(stubBytes, forkBytes, ones)},
		{"a fork with its sides as a list", listBytes(forkBytes, listBytes(stubBytes, ones))},
		{"the side of 1 first", listBytes(forkBytes, ones, stubBytes)},
		{"a leaf of the key alone", listBytes(listBytes(strBytes(zero)))},
		{"a leaf of three texts", listBytes(listBytes(strBytes(zero), strBytes("v"), strBytes("v")))},
		{"a leaf with a number as its value", listBytes(listBytes(strBytes(zero), numBytes(3)))},
		{"a leaf with a list as its value", listBytes(listBytes(strBytes(zero), listBytes(strBytes("v"))))},
		{"a leaf with a list as its key", listBytes(listBytes(listBytes(strBytes(zero)), strBytes("v")))},
		{"a fork of the place alone", listBytes(listBytes(numBytes(3)), stubBytes, ones)},
		{"a fork with first bits as a number", listBytes(listBytes(numBytes(3), numBytes(0)), stubBytes, ones)},
		{"a fork with first bits as a list", listBytes(listBytes(numBytes(3), listBytes()), stubBytes, ones)},
		{"a fork with three fields", listBytes(listBytes(numBytes(3), strBytes(zero), strBytes(zero)), stubBytes, ones)},
		{"a fork with its fields swapped", listBytes(listBytes(strBytes(zero), numBytes(3)), stubBytes, ones)},
		{"a fork with its place as a text", listBytes(listBytes(strBytes("\x03"), strBytes(zero)), stubBytes, ones)},
		{"a fork with a number below it", listBytes(forkBytes, numBytes(0), ones)},
		{"a fork with an empty list below it", listBytes(forkBytes, stubBytes, listBytes())},
		{"a fork above a leaf with a list as its value", listBytes(forkBytes, stubBytes, listBytes(strBytes(lone(3)), listBytes()))},
		{"a fork above a leaf with a number as its value", listBytes(forkBytes, stubBytes, listBytes(strBytes(lone(3)), numBytes(0)))},
	}
	for _, x := range tests {
		for _, root := range roots {
			refused(t, x.name, root, x.text)
		}
	}
	for _, f := range []*api.Fork{l, f, shut, nil} {
		opened(t, f)
	}
}

// P6.2: great numbers are no places, whatever place their lower bytes name.
func TestGreatPlaces(t *testing.T) {
	shut := stubOf(hash("any"))
	for _, at := range []uint64{256, 1 << 16, 1 << 31, 1 << 32, 1 << 33, 1 << 63, math.MaxUint64 - 255} {
		for _, low := range []uint64{0, 3, 255} {
			text := listBytes(listBytes(numBytes(at+low), strBytes(lone(256))), strBytes(shut.Hash), strBytes(shut.Hash))
			refused(t, fmt.Sprint("place ", at+low), forkOf(int(low), lone(256), shut, shut).Hash, text)
			refused(t, fmt.Sprint("place ", at+low), forkOf(int(at+low), lone(256), shut, shut).Hash, text)
		}
	}
}

// P6.2: a text is opened for its own map's root alone.
func TestOtherRoots(t *testing.T) {
	r := rand.New(rand.NewSource(74))
	var texts, roots []string
	for n := range 14 {
		m := some(r, n)
		a := someAsking(r, m)
		s, _ := Show(m.made(), a.keys, a.under)
		texts, roots = append(texts, s), append(roots, m.made().Root())
	}
	for i, s := range texts {
		for j, root := range roots {
			if _, ok := Open(root, s); ok != (i == j) {
				t.Errorf("text %d for root %d: %v", i, j, ok)
			}
		}
		root := roots[i]
		for _, other := range []string{"", root[:31], root[1:], root + "\x00", "\x00" + root, root + root, hash(root), s} {
			refused(t, "another root", other, s)
		}
		for bit := range 256 {
			refused(t, "a root with another bit", flipped(root, bit), s)
		}
	}
}

// P6.2: a text with any bit turned, any byte taken out, put in, or cut off isn't opened.
func TestTurned(t *testing.T) {
	r := rand.New(rand.NewSource(75))
	for _, n := range []int{0, 1, 2, 3, 7} {
		m := some(r, n)
		a := someAsking(r, m)
		root := m.made().Root()
		s, _ := Show(m.made(), a.keys, a.under)
		for i := range len(s) {
			for bit := range 8 {
				refused(t, "a bit turned", root, s[:i]+string([]byte{s[i] ^ 1<<bit})+s[i+1:])
			}
			refused(t, "a byte 0", root, s[:i]+"\x00"+s[i:])
			refused(t, "a byte twice", root, s[:i]+s[i:i+1]+s[i:])
			refused(t, "cut short", root, s[:i])
			refused(t, "cut off", root, s[i+1:])
		}
		for _, more := range []string{"\x00", "l\x00", strBytes(root), s} {
			refused(t, "more behind", root, s+more)
		}
	}
}

// twisted: a tree like this one, of which a node or more is turned by chance, with hashes that fit.
func twisted(r *rand.Rand, f *api.Fork) *api.Fork {
	odds := 3 + r.Intn(10)
	keyOf := func(key string) string {
		switch r.Intn(odds) {
		case 0:
			return flipped(key, []int{0, 1, 2, 3, 7, 8, 254, 255, r.Intn(256)}[r.Intn(9)])
		case 1:
			return []string{key[:31], key + "\x00", "", key}[r.Intn(4)]
		}
		return key
	}
	switch {
	case f == nil || f.Stub || r.Intn(2*odds) == 0:
		return stubOf(rootOf(f))
	case f.Leaf:
		return leafOf(keyOf(f.Key), f.Val)
	}
	zero, one, at := twisted(r, f.Zero), twisted(r, f.One), f.At
	if r.Intn(odds) == 0 {
		zero, one = one, zero
	}
	if r.Intn(odds) == 0 {
		at = []int{at + 1, max(at-1, 0), r.Intn(256), 256 + at, 1<<16 + at}[r.Intn(5)]
	}
	return forkOf(at, keyOf(f.Key), zero, one)
}

// isRight: whether such a tree stands in any map: of all that stands below a fork, however deep, the bits go on where it ends, on the right side.
func isRight(f *api.Fork, begin string) bool {
	if f.Stub {
		return len(f.Hash) == 32
	}
	if len(f.Key) != 32 || f.At < 0 || f.At > 255 {
		return false
	}
	if f.Leaf {
		return strings.HasPrefix(digits(f.Key), begin)
	}
	first := digits(f.Key)[:f.At]
	return f.Key == undigits(first+"0") && strings.HasPrefix(first, begin) && isRight(f.Zero, first+"0") && isRight(f.One, first+"1")
}

// P6.2: trees that are turned here and there, with hashes that fit: what is opened of them is just what is right.
func TestTwisted(t *testing.T) {
	r := rand.New(rand.NewSource(76))
	count := [2]int{}
	for range 6000 {
		f := some(r, 1+r.Intn(6)).tree()
		f = twisted(r, f)
		want := isRight(f, "")
		p, ok := Open(f.Hash, textOf(f))
		if ok != want || (p != nil) != want {
			t.Fatalf("%q: %v, asked for %v", textOf(f), ok, want)
		}
		if want {
			count[1]++
			if !reflect.DeepEqual(p.Top(), f) || p.Root() != f.Hash {
				t.Fatal("another tree")
			}
		} else {
			count[0]++
		}
	}
	if min(count[0], count[1]) < 500 {
		t.Errorf("too few of one kind: %v", count)
	}
}

// spoil: what the part answers is changed wherever that can be done.
func spoil(p *Part, key string) {
	for _, n := range []int{0, 1, 8, 256} {
		l, _ := p.Under(key, n)
		for i := range l {
			l[i] = api.Pair{Key: "spoilt", Val: "spoilt"}
		}
		_ = append(l, api.Pair{Key: "more"})
	}
	spoilTree(p.Top())
}

func spoilTree(f *api.Fork) {
	if f == nil {
		return
	}
	spoilTree(f.Zero)
	spoilTree(f.One)
	*f = api.Fork{Leaf: true, Key: "spoilt", Val: "spoilt", At: -1, Hash: "spoilt"}
}

// R3, R4: a part is as it was behind each kind of call of it, refused ones too, and of those that are made of it.
func TestAsItWas(t *testing.T) {
	r := rand.New(rand.NewSource(77))
	for n := range 14 {
		m := some(r, n)
		shut := someShut(r, m.tree())
		v := version{opened(t, cut(m.tree(), shut)), m, shut}
		kept := *v.p
		for _, k := range append(append(near(r, m, 6), wrongKeys()...), m.keys()...) {
			v.p.Get(k)
			v.p.Under(k, 3)
			v.p.Under(k, -1)
			for _, change := range []func(*Part) (*Part, bool){
				func(p *Part) (*Part, bool) { return p.Put(k, "new") },
				func(p *Part) (*Part, bool) { return p.Put(k, "") },
				func(p *Part) (*Part, bool) { return p.Delete(k) },
			} {
				q, ok := change(v.p)
				if !ok {
					continue
				}
				for _, again := range []string{k, lone(256), hash("again")} {
					q.Put(again, "again")
					q.Delete(again)
					spoil(q, again)
				}
			}
			v.p.Root()
			spoil(v.p, k)
			v.isWhole(t)
		}
		if *v.p != kept {
			t.Error("other fields than before")
		}
		v.is(t)
	}
}

// R4: two answers share nothing.
func TestAnswersAreOwn(t *testing.T) {
	m := hundred()
	p := isShown(t, m, asking{under: []api.Prefix{{Key: lone(256)}}}).p
	a, b := p.Top(), p.Top()
	spoilTree(a)
	if !reflect.DeepEqual(b, m.tree()) {
		t.Error("two trees share memory")
	}
	l, _ := p.Under(lone(256), 0)
	u, _ := p.Under(lone(0), 0)
	clear(l)
	if !slices.Equal(u, m.under("")) {
		t.Error("two lists share memory")
	}
}

// P0: texts of very many nodes, right or not, end soon.
func TestManyNodes(t *testing.T) {
	shut := strBytes(hash("any"))
	texts := []string{
		"l" + sizeBytes(400000) + strings.Repeat(listBytes(numBytes(0), strBytes(lone(256))), 400000),
		"l" + sizeBytes(400000) + strings.Repeat(shut, 400000),
		"l" + sizeBytes(1<<22) + strings.Repeat("l\x00", 1<<22),
		"l" + sizeBytes(1<<22) + strings.Repeat("n\x00", 1<<22),
		strings.Repeat("l\x01", 1<<22),
		strings.Repeat("\x00", api.MaxBytes+1),
		"l" + sizeBytes(255+2) + strings.Repeat(listBytes(numBytes(3), strBytes(lone(256))), 255) + shut + shut,
	}
	soon(t, "texts", func() {
		for i, s := range texts {
			refused(t, fmt.Sprint("text ", i), hash("any"), s)
		}
	})
	soon(t, "a map", func() {
		m := model{}
		for i := range 20000 {
			m[hash(fmt.Sprint(i))] = fmt.Sprint(i)
		}
		x := m.made()
		under := make([]api.Prefix, 3000)
		for i := range under {
			under[i] = api.Prefix{Key: hash(fmt.Sprint(i)), Bits: i % 5}
		}
		s, ok := Show(x, m.keys(), under)
		p, fine := Open(x.Root(), s)
		if l, known := p.Under(lone(256), 0); !ok || !fine || !known || !slices.Equal(l, x.All()) {
			t.Error("not all is shown")
		}
	})
}

// P0: as deep as a tree can be, in each call.
func TestDeepest(t *testing.T) {
	m := chain()
	for _, i := range []int{0, 1, 127, 128, 254, 255, 256} {
		v := isShown(t, m, asking{keys: []string{lone(i)}})
		for _, j := range []int{0, 1, 128, 255, 256} {
			v.tells(t, lone(j), 0, 1, 128, 255, 256)
			v.put(t, lone(j), "new")
			v.without(t, lone(j))
		}
	}
	keys := m.keys()
	v := isShown(t, m, asking{keys: keys})
	p, want := v.p, maps.Clone(m)
	for _, k := range keys[:250] {
		p, _ = p.Delete(k)
		delete(want, k)
	}
	version{p, want, nil}.is(t)
}

// P0, P6.2: whatever is opened, no call panics, and it is a part of just the root that its nodes hash to.
func FuzzOpen(f *testing.F) {
	r := rand.New(rand.NewSource(78))
	f.Add("l\x00", "")
	for n := range 8 {
		m := some(r, n)
		f.Add(textOf(cut(m.tree(), someShut(r, m.tree()))), lone(n))
	}
	f.Add(textOf(forkOf(0, lone(256), leafOf(lone(256), ""), leafOf(lone(0), ""))), lone(256))
	f.Fuzz(func(t *testing.T, s, key string) {
		root := meant(s)
		refused(t, "another root", hash(root), s)
		p, ok := Open(root, s)
		if !ok {
			return
		}
		if p.Root() != root || textOf(p.Top()) != s || p.Top() != nil && !isRight(p.Top(), "") {
			t.Fatalf("%q", s)
		}
		if len(key) != 32 {
			isUnasked(t, p)
			return
		}
		_, there, known := p.Get(key)
		q, ok := p.Put(key, "new")
		if ok != known {
			t.Fatalf("%q: put %x: %v", s, key, ok)
		}
		if !ok {
			return
		}
		if val, is, knows := q.Get(key); val != "new" || !is || !knows {
			t.Fatalf("%q: put %x, and it isn't there", s, key)
		}
		if gone, ok := q.Delete(key); !there && (!ok || gone.Root() != root) {
			t.Fatalf("%q: put and deleted %x, and another root", s, key)
		}
	})
}

// meant: the root that a text of a part would have, whatever of it doesn't fit; "" of what is none.
func meant(s string) string {
	n, ok := codec.Read(s)
	if !ok {
		return ""
	}
	if len(n.Kids) == 0 {
		return trie.Empty()
	}
	var first func() string
	first = func() string {
		if len(n.Kids) == 0 {
			return ""
		}
		kid := n.Kids[0]
		n.Kids = n.Kids[1:]
		if kid.Kind != api.List {
			return kid.S
		}
		if len(kid.Kids) != 2 {
			return ""
		}
		if kid.Kids[0].Kind == api.Str {
			return leafOf(kid.Kids[0].S, kid.Kids[1].S).Hash
		}
		zero := first()
		one := first()
		return forkOf(int(kid.Kids[0].N), kid.Kids[1].S, stubOf(zero), stubOf(one)).Hash
	}
	return first()
}
