package header

import (
	"fmt"
	"math"
	"math/rand"
	"slices"
	"strings"
	"testing"

	"vidimus/api"
)

// P12.1: chains of any length, made by Next, checked from their first one on and from any one in their midst.
func TestChain(t *testing.T) {
	for _, shard := range []uint64{0, 7, math.MaxUint64} {
		for _, key := range keys() {
			all := []api.Signed{First(key, shard)}
			for i := range 40 {
				s, ok := Next(key, all[i], hashOf(fmt.Sprint(i)), uint64(i%4), uint64(i)<<32)
				if !ok {
					t.Fatal(i)
				}
				all = append(all, s)
			}
			if l := grown(key, all[0], 3, ""); l[2].Header.Seq != 3 || !Check(key, l[2]) {
				t.Fatal("grown")
			}
			for i := range all {
				for j := i; j < len(all); j++ {
					aChain(t, fmt.Sprintf("from %d to %d", i, j), key, all[i], all[i+1:j+1], all[j])
				}
			}
		}
	}
}

// P12.1: a long chain, one that ends at the greatest number, and an empty list.
func TestChainEdges(t *testing.T) {
	from := First("key", 1)
	l := grown("key", from, 5000, "long")
	aChain(t, "long", "key", from, l, l[4999])
	noChain(t, "long, without the first", "key", from, l[1:])
	noChain(t, "long, without one in its midst", "key", from, without(l, 2500))

	h := full()
	h.Seq = math.MaxUint64 - 3
	from = plainSigned("key", h)
	l = grown("key", from, 4, "end")
	aChain(t, "up to the greatest", "key", from, l[:3], l[2])
	noChain(t, "past the greatest", "key", from, l)

	for _, from := range []api.Signed{from, {}, {Mac: "x"}, {Header: full()}, {Header: noHeaders()[0], Mac: "y"}} {
		aChain(t, "nil", "key", from, nil, from)
		aChain(t, "empty", "key", from, []api.Signed{}, from)
	}
}

// P12.1: where a chain begins isn't checked but for what follows it.
func TestChainFrom(t *testing.T) {
	from := plainSigned("key", full())
	l := grown("key", from, 3, "x")
	for _, mac := range []string{"", "x", fill(0), sealOf("kez", plain(full())), strings.Repeat("m", 500)} {
		aChain(t, fmt.Sprintf("a seal of %q", mac), "key", api.Signed{Header: full(), Mac: mac}, l, l[2])
	}
	for what, h := range turns(full()) {
		noChain(t, "from one with "+what, "key", plainSigned("key", h), l)
	}
	for _, h := range noHeaders() {
		b := plainSigned("key", api.Header{Shard: h.Shard, Seq: h.Seq + 1, Prev: hashOf(plain(h)), Root: fill(0)})
		noChain(t, "from what is no header", "key", plainSigned("key", h), []api.Signed{b})
	}
	noChain(t, "from the zero value", "key", api.Signed{}, []api.Signed{plainSigned("key", api.Header{Seq: 1, Prev: hashOf(""), Root: fill(0)})})
}

// P12.1: lists that are no chains: one is missing, there twice, of another order, of another chain.
func TestNoChain(t *testing.T) {
	from := First("key", 7)
	l := grown("key", from, 10, "l")
	other := grown("key", from, 10, "other")
	for i := range l {
		if i < 9 {
			noChain(t, fmt.Sprint("without ", i), "key", from, without(l, i))
		}
		noChain(t, fmt.Sprint("twice ", i), "key", from, slices.Insert(slices.Clone(l), i, l[i]))
		noChain(t, fmt.Sprint("from ahead of it, ", i), "key", from, slices.Insert(slices.Clone(l), i, from))
		for j := range i {
			x := slices.Clone(l)
			x[i], x[j] = x[j], x[i]
			noChain(t, fmt.Sprintf("%d and %d", j, i), "key", from, x)
		}
		x := slices.Clone(l)
		x[i] = other[i]
		if i < 9 {
			noChain(t, fmt.Sprint("another one at ", i), "key", from, x)
		}
		if i > 0 {
			noChain(t, fmt.Sprint("others from ", i), "key", from, slices.Concat(l[:i], other[i:]))
			noChain(t, fmt.Sprint("from another ", i), "key", from, slices.Concat(other[:i], l[i:]))
			noChain(t, fmt.Sprint("without the first ", i), "key", from, l[i:])
			noChain(t, fmt.Sprint("from a later one, ", i), "key", l[i], l)
		}
		x = slices.Clone(l)
		x[i] = api.Signed{}
		noChain(t, fmt.Sprint("zero at ", i), "key", from, x)
	}
	noChain(t, "of another shard", "key", First("key", 8), l)
	slices.Reverse(l)
	noChain(t, "the other way round", "key", from, l)
}

// P12.1: at any place of a chain, the last one too, a header that is signed but doesn't follow.
func TestChainNotFollowing(t *testing.T) {
	from := First("key", 7)
	l := grown("key", from, 5, "l")
	for i := range l {
		for what, h := range turns(l[i].Header) {
			x := append(slices.Clone(l[:i]), plainSigned("key", h))
			right := h.Shard == 7 && h.Seq == l[i].Header.Seq && h.Prev == l[i].Header.Prev && len(h.Root) == 32
			if right {
				aChain(t, fmt.Sprintf("%s, at %d", what, i), "key", from, x, x[i])
			} else {
				noChain(t, fmt.Sprintf("%s, at %d", what, i), "key", from, x)
			}
			if i < 4 {
				noChain(t, fmt.Sprintf("%s, at %d, and others behind it", what, i), "key", from, append(x, l[i+1:]...))
			}
			tail := grown("key", plainSigned("key", h), 2, "tail")
			if _, ok := Chain("key", from, append(x, tail...)); ok != (right && h.Seq < math.MaxUint64-1) {
				t.Errorf("%s, at %d, and what follows it: %t", what, i, ok)
			}
		}
	}
}

// P12.1: at any place of a chain, the last one too, a header that isn't signed by the key.
func TestChainNotSigned(t *testing.T) {
	from := First("key", 7)
	l := grown("key", from, 5, "l")
	for _, key := range append(keys(), "kez", "ke", "keyy", "Key") {
		if key == "key" {
			continue
		}
		noChain(t, "by another key", key, from, l)
		for i := range l {
			x := slices.Clone(l)
			x[i] = plainSigned(key, l[i].Header)
			noChain(t, fmt.Sprintf("by another key at %d", i), "key", from, x)
		}
	}
	for i := range l {
		for bit := range 256 {
			x := slices.Clone(l)
			x[i].Mac = turned(x[i].Mac, bit)
			noChain(t, fmt.Sprintf("bit %d of the Mac at %d", bit, i), "key", from, x)
		}
		for _, mac := range []string{"", l[i].Mac[:31], l[i].Mac + "\x00", l[(i+1)%5].Mac, from.Mac, fill(0)} {
			x := slices.Clone(l)
			x[i].Mac = mac
			noChain(t, fmt.Sprintf("a Mac of %d bytes at %d", len(mac), i), "key", from, x)
		}
		for what, h := range turns(l[i].Header) {
			x := slices.Clone(l)
			x[i].Header = h
			noChain(t, fmt.Sprintf("%s at %d, with the same Mac", what, i), "key", from, x)
		}
	}
}

// P12.1: lists of pieces of a few chains, by the words of the chapter.
func TestAnyLists(t *testing.T) {
	r := rand.New(rand.NewSource(1))
	first := First("key", 3)
	a := append([]api.Signed{first}, grown("key", first, 6, "a")...)
	b := append(slices.Clone(a[:4]), grown("key", a[3], 3, "b")...)
	c := append(slices.Clone(a[:4]), grown("kez", a[3], 3, "a")...)
	stories := [][]api.Signed{a, b, c}
	took := 0
	for range 30000 {
		x := stories[r.Intn(3)]
		at := r.Intn(len(x))
		from, l := x[at], slices.Clone(x[at+1:])
		for range r.Intn(2) {
			if len(l) > 0 {
				y := stories[r.Intn(3)]
				l[r.Intn(len(l))] = y[r.Intn(len(y))]
			}
		}
		l = l[:r.Intn(len(l)+1)]
		got, ok := Chain("key", from, l)
		want, right := plainChain("key", from, l)
		if ok != right || got != want {
			t.Fatalf("%s, %s: %s, %t", name(from), name(l), name(got), ok)
		}
		if ok {
			took++
		}
	}
	if took < 1000 || took > 29000 {
		t.Errorf("%d of 30000 were chains", took)
	}
}

// R4: what is handed in isn't changed.
func TestChainKeepsList(t *testing.T) {
	from := First("key", 7)
	l := grown("key", from, 5, "l")
	x := slices.Clone(l)
	Chain("key", from, x)
	Text(x)
	if !slices.Equal(x, l) {
		t.Error(x)
	}
}

// branches: all chains of that length behind from, of a few headers at each place.
func branches(t *testing.T, key string, from api.Signed, length int) [][]api.Signed {
	if length == 0 {
		return [][]api.Signed{nil}
	}
	var out [][]api.Signed
	for _, x := range []struct {
		root       string
		who, stamp uint64
	}{{fill(0), 0, 0}, {fill(0), 0, 1}, {fill(0), 1, 0}, {fill(1), 0, 0}, {fill(1), 1, 1}} {
		s, ok := Next(key, from, x.root, x.who, x.stamp)
		if !ok {
			t.Fatal("none follows")
		}
		for _, tail := range branches(t, key, s, length-1) {
			out = append(out, append([]api.Signed{s}, tail...))
		}
	}
	return out
}

// P12.2: of all chains of one length from one header on no two end in headers of one hash.
func TestUnlikeChains(t *testing.T) {
	from := First("key", 7)
	for length := 1; length <= 5; length++ {
		ends := map[string]int{}
		all := branches(t, "key", from, length)
		for i, l := range all {
			last, ok := Chain("key", from, l)
			if !ok {
				t.Fatalf("%d is no chain", i)
			}
			hash := Hash(last.Header)
			if j, ok := ends[hash]; ok {
				t.Fatalf("%s and %s end in one hash", name(all[j]), name(l))
			}
			ends[hash] = i
		}
		if want := int(math.Pow(5, float64(length))); len(ends) != want {
			t.Errorf("%d ends of %d", len(ends), want)
		}
	}
}

// again: the chain l, the header at a place being another one, and those behind it made anew.
func again(key string, l []api.Signed, at int, h api.Header) []api.Signed {
	out := append(slices.Clone(l[:at]), plainSigned(key, h))
	for _, s := range l[at+1:] {
		next, _ := Next(key, out[len(out)-1], s.Header.Root, s.Header.Who, s.Header.Stamp)
		out = append(out, next)
	}
	return out
}

// P12.2: a bit that is turned in one header anywhere shows in the last one's hash, if the list is a chain still.
func TestTurnedChains(t *testing.T) {
	from := First("key", 7)
	l := grown("key", from, 8, "l")
	ends := map[string]string{Hash(l[7].Header): "none"}
	for i := range l {
		chains := 0
		for what, h := range turns(l[i].Header) {
			x := again("key", l, i, h)
			last, ok := Chain("key", from, x)
			if !ok {
				continue
			}
			chains++
			what = fmt.Sprintf("%s at %d", what, i)
			if other, ok := ends[Hash(last.Header)]; ok {
				t.Errorf("%s and %s end in one hash", what, other)
			}
			ends[Hash(last.Header)] = what
		}
		// Each bit of the root, and seven numbers of Who and of Stamp.
		if chains != 256+14 {
			t.Errorf("at %d: %d chains", i, chains)
		}
	}
}

// P12.2: of two headers that are unlike in any field neither bytes nor hash are the same.
func TestUnlikeHeaders(t *testing.T) {
	seen := map[string]api.Header{}
	add := func(h api.Header) {
		hash := Hash(h)
		if hash == "" {
			return
		}
		if g, ok := seen[hash]; ok && g != h {
			t.Errorf("%s and %s have one hash", name(g), name(h))
		}
		seen[hash] = h
	}
	for _, h := range headers() {
		add(h)
		for _, x := range turns(h) {
			add(x)
		}
	}
	// The same numbers at other places.
	for i := range 4 {
		for j := range 4 {
			h := api.Header{Prev: fill(1), Root: fill(2)}
			*numbers(&h)[i], *numbers(&h)[j] = 1, 2
			add(h)
		}
	}
	add(api.Header{Prev: fill(2), Root: fill(1)})
}

// P12.2: of headers, seals and keys only those that belong together are taken.
func TestSealsOfOthers(t *testing.T) {
	var l []api.Header
	for i, h := range headers() {
		if i%4 == 0 && !slices.Contains(l, h) {
			l = append(l, h)
		}
	}
	var macs []string
	for _, key := range keys() {
		for _, h := range l {
			s, _ := Sign(key, h)
			macs = append(macs, s.Mac)
		}
	}
	for k, key := range keys() {
		for i, h := range l {
			for j, mac := range macs {
				if got := Check(key, api.Signed{Header: h, Mac: mac}); got != (j == k*len(l)+i) {
					t.Fatalf("the Mac %d for %s by key %d: %t", j, name(h), k, got)
				}
			}
		}
	}
}

// P12.2: what is like a seal, but isn't it, is none.
func TestNoSeals(t *testing.T) {
	for _, key := range keys() {
		for _, h := range headers()[:40] {
			s := plainSigned(key, h)
			for bit := range 256 {
				if Check(key, api.Signed{Header: h, Mac: turned(s.Mac, bit)}) {
					t.Errorf("%s: bit %d of the Mac says nothing", name(h), bit)
				}
			}
			for n := range 32 {
				if Check(key, api.Signed{Header: h, Mac: s.Mac[:n]}) || Check(key, api.Signed{Header: h, Mac: s.Mac[n+1:]}) {
					t.Errorf("%s: %d bytes of the Mac are enough", name(h), n)
				}
			}
			for _, mac := range []string{s.Mac + "\x00", s.Mac + s.Mac, "\x00" + s.Mac, fill(0), Hash(h), hashOf(key + plain(h)), hashOf(plain(h) + key), sealOf(plain(h), key)} {
				if Check(key, api.Signed{Header: h, Mac: mac}) {
					t.Errorf("%s: %x is said to be a seal", name(h), mac)
				}
			}
		}
	}
}
