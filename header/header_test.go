package header

import (
	"fmt"
	"math"
	"math/rand"
	"strings"
	"testing"

	"vidimus/api"
	"vidimus/sha"
	"vidimus/trie"
)

// P12.1: bytes, hashes and seals that were worked out elsewhere.
func TestKnown(t *testing.T) {
	long := strings.Repeat("k", 100)
	most := uint64(math.MaxUint64)
	tests := []struct {
		key              string
		h                api.Header
		bytes, hash, mac string
	}{
		{"", api.Header{Prev: fill(0), Root: fill(0)},
			"6c066e006e0073200000000000000000000000000000000000000000000000000000000000000000732000000000000000000000000000000000000000000000000000000000000000006e006e00",
			"e43e6d8072db88a368fb303d91b0a3f9169ed07e67b8f8fb33d65c70ddc714fa",
			"f9c834c61ea5f2a2c1f3667a6da9403320e48905d2c326154edd8e837bcd553b"},
		{"key", api.Header{Shard: 7, Prev: fill(0), Root: fill(0)},
			"6c066e01076e0073200000000000000000000000000000000000000000000000000000000000000000732000000000000000000000000000000000000000000000000000000000000000006e006e00",
			"653eef7702002120991c241d50b11339bdf1579a8b8f37a0ad6cb125c6eefefd",
			"ef084a074c2700b564f33defdd9a3bdd1a477b81001d6b59177afb16271bc837"},
		{"key", api.Header{Shard: 7, Seq: 1, Prev: unhex("653eef7702002120991c241d50b11339bdf1579a8b8f37a0ad6cb125c6eefefd"), Root: hashOf("a"), Who: 3, Stamp: 258},
			"6c066e01076e01017320653eef7702002120991c241d50b11339bdf1579a8b8f37a0ad6cb125c6eefefd7320ca978112ca1bbdcafac231b39a23dc4da786eff8147c4e72b9807785afee48bb6e01036e020102",
			"449000e361d25ed3c4ded47f0b4fd03c8e1e573ed1e24313651e96a95346efca",
			"5527851918ffa1a486cb0340cccdcb66614a769db9ef8119bd3f28587b409dab"},
		{long, api.Header{Shard: most, Seq: most, Prev: fill(255), Root: fill(1), Who: most, Stamp: most},
			"6c066e08ffffffffffffffff6e08ffffffffffffffff7320ffffffffffffffffffffffffffffffffffffffffffffffffffffffffffffffff732001010101010101010101010101010101010101010101010101010101010101016e08ffffffffffffffff6e08ffffffffffffffff",
			"ad4d69149eb33425ec6b57046df94a42235692756db80633c47235a3f58dfeae",
			"3d29c17e3cb722876cd869077440aeb5842430258b01dfdce95e12fb2afef5d5"},
	}
	for _, x := range tests {
		if got, ok := Bytes(x.h); !ok || got != unhex(x.bytes) {
			t.Errorf("%s: bytes %x, %t", name(x.h), got, ok)
		}
		if got := Hash(x.h); got != unhex(x.hash) {
			t.Errorf("%s: hash %x", name(x.h), got)
		}
		want := api.Signed{Header: x.h, Mac: unhex(x.mac)}
		if got, ok := Sign(x.key, x.h); !ok || got != want {
			t.Errorf("%s: signed %x, %t", name(x.h), got.Mac, ok)
		}
		if !Check(x.key, want) {
			t.Errorf("%s: not signed", name(x.h))
		}
	}
}

// P12.1: the first header of shard 7 and the two that follow it, as they were worked out elsewhere.
func TestKnownChain(t *testing.T) {
	a := First("key", 7)
	b, ok := Next("key", a, sha.Sum("a"), 3, 258)
	if !ok || sha.Hex(b.Header.Prev) != "653eef7702002120991c241d50b11339bdf1579a8b8f37a0ad6cb125c6eefefd" {
		t.Errorf("%s, %t", name(b), ok)
	}
	c, ok := Next("key", b, sha.Sum("b"), math.MaxUint64, 0)
	if !ok || sha.Hex(c.Mac) != "1a94b95c1112e295ca3099a6656e3e80b8a9b1450cb45ca19f4434b72bd47aa5" {
		t.Errorf("%s, %t", name(c), ok)
	}
	if got := sha.Hex(Hash(c.Header)); got != "0fdb9621ac380ccf141b239aaf7941719aac4f4c1daf515b020ee1106ec3e6fc" {
		t.Error(got)
	}
}

// holds: what the calls of one header answer, by the chapter's words.
func holds(t *testing.T, key string, h api.Header) {
	t.Helper()
	if got, ok := Bytes(h); !ok || got != plain(h) {
		t.Errorf("%s: bytes %x, %t", name(h), got, ok)
	}
	if got := Hash(h); got != hashOf(plain(h)) {
		t.Errorf("%s: hash %x", name(h), got)
	}
	want := plainSigned(key, h)
	if got, ok := Sign(key, h); !ok || got != want {
		t.Errorf("%s: signed %x, %t", name(h), got.Mac, ok)
	}
	if !Check(key, want) {
		t.Errorf("%s: not signed", name(h))
	}
}

// P12.1: headers of any fields, by any keys.
func TestHeaders(t *testing.T) {
	for _, h := range headers() {
		for _, key := range keys() {
			holds(t, key, h)
		}
	}
	r := rand.New(rand.NewSource(1))
	for range 5000 {
		if h := anyHeader(r); len(h.Prev) == 32 && len(h.Root) == 32 {
			key := make([]byte, r.Intn(130))
			r.Read(key)
			holds(t, string(key), h)
		}
	}
}

// P12.1: of what is no header no call answers anything.
func TestNoHeader(t *testing.T) {
	for _, h := range noHeaders() {
		if got, ok := Bytes(h); ok || got != "" {
			t.Errorf("%s: bytes %x, %t", name(h), got, ok)
		}
		if got := Hash(h); got != "" {
			t.Errorf("%s: hash %x", name(h), got)
		}
		for _, key := range keys() {
			if got, ok := Sign(key, h); ok || got != (api.Signed{}) {
				t.Errorf("%s: signed %s, %t", name(h), name(got), ok)
			}
			if Check(key, plainSigned(key, h)) || Check(key, api.Signed{Header: h}) {
				t.Errorf("%s: said to be signed", name(h))
			}
			if got, ok := Next(key, plainSigned(key, h), hashOf("root"), 1, 2); ok || got != (api.Signed{}) {
				t.Errorf("%s: next %s, %t", name(h), name(got), ok)
			}
		}
	}
	if Check("", api.Signed{}) || Check("key", api.Signed{Mac: sealOf("key", "")}) {
		t.Error("the zero value is said to be signed")
	}
}

// P12.1: the first header of any shard.
func TestFirst(t *testing.T) {
	for _, shard := range edges() {
		for _, key := range keys() {
			s := First(key, shard)
			if want := plainSigned(key, api.Header{Shard: shard, Prev: fill(0), Root: fill(0)}); s != want {
				t.Errorf("%d: %s", shard, name(s))
			}
			if s.Header.Root != trie.New().Root() || !Check(key, s) {
				t.Errorf("%d: %s", shard, name(s))
			}
		}
	}
}

// P12.1: what follows any header, with any root and any numbers.
func TestNext(t *testing.T) {
	for _, h := range headers() {
		for _, key := range []string{"", "key", strings.Repeat("k", 200)} {
			for _, root := range []string{fill(0), fill(255), hashOf("root")} {
				for _, n := range []uint64{0, 1, 1 << 32, math.MaxUint64} {
					s, ok := Next(key, plainSigned(key, h), root, n, ^n)
					want := plainSigned(key, api.Header{Shard: h.Shard, Seq: h.Seq + 1, Prev: hashOf(plain(h)), Root: root, Who: n, Stamp: ^n})
					if h.Seq == math.MaxUint64 {
						want = api.Signed{}
					}
					if ok != (h.Seq < math.MaxUint64) || s != want {
						t.Fatalf("behind %s: %s, %t", name(h), name(s), ok)
					}
					if ok && (!Follows(h, s.Header) || !Check(key, s)) {
						t.Fatalf("behind %s: %s doesn't follow", name(h), name(s))
					}
				}
			}
		}
	}
}

// P12.1: roots that haven't 32 bytes, and the greatest number.
func TestNoNext(t *testing.T) {
	for _, h := range headers() {
		s := plainSigned("key", h)
		for _, n := range []int{0, 1, 31, 33, 64, 1000} {
			if got, ok := Next("key", s, strings.Repeat("r", n), 1, 2); ok || got != (api.Signed{}) {
				t.Errorf("a root of %d: %s, %t", n, name(got), ok)
			}
		}
	}
	h := full()
	h.Seq = math.MaxUint64 - 1
	last, ok := Next("key", plainSigned("key", h), fill(1), 1, 2)
	if !ok || last.Header.Seq != math.MaxUint64 {
		t.Fatal(name(last), ok)
	}
	if got, ok := Next("key", last, fill(1), 1, 2); ok || got != (api.Signed{}) {
		t.Error(name(got), ok)
	}
}

// P12.1: Next asks nothing of the seal of the one that it follows.
func TestNextOfAnySeal(t *testing.T) {
	want, _ := Next("key", plainSigned("key", full()), fill(1), 1, 2)
	for _, mac := range []string{"", "x", fill(0), sealOf("kez", plain(full())), strings.Repeat("m", 1000)} {
		if got, ok := Next("key", api.Signed{Header: full(), Mac: mac}, fill(1), 1, 2); !ok || got != want {
			t.Errorf("%q: %s, %t", mac, name(got), ok)
		}
	}
}

// turns: what is like h but for one field, and what was changed.
func turns(h api.Header) map[string]api.Header {
	out := map[string]api.Header{}
	for i := range numbers(&h) {
		for _, d := range []uint64{1, 2, 1 << 8, 1 << 32, 1 << 63, math.MaxUint64, math.MaxUint64 - 1} {
			x := h
			*numbers(&x)[i] += d
			out[fmt.Sprintf("number %d, %d more", i, d)] = x
		}
	}
	for bit := range 256 {
		x, y := h, h
		x.Prev, y.Root = turned(h.Prev, bit), turned(h.Root, bit)
		out[fmt.Sprintf("bit %d of Prev", bit)] = x
		out[fmt.Sprintf("bit %d of Root", bit)] = y
	}
	for _, s := range []string{"", h.Prev[:31], h.Prev + "\x00"} {
		x, y := h, h
		x.Prev, y.Root = s, s
		out[fmt.Sprintf("Prev of %d", len(s))] = x
		out[fmt.Sprintf("Root of %d", len(s))] = y
	}
	return out
}

// P12.1: what follows, and what doesn't: another shard, number, hash; of what is followed any other field.
func TestFollows(t *testing.T) {
	for _, h := range headers() {
		a := h
		b := api.Header{Shard: a.Shard, Seq: a.Seq + 1, Prev: hashOf(plain(a)), Root: fill(9), Who: 4, Stamp: 5}
		if Follows(a, b) != (a.Seq < math.MaxUint64) {
			t.Errorf("%s, and behind it %s: %t", name(a), name(b), Follows(a, b))
		}
		if Follows(b, a) || Follows(a, a) || Follows(b, b) {
			t.Errorf("%s is followed by itself, or by the one ahead", name(a))
		}
		b.Seq = a.Seq
		if Follows(a, b) {
			t.Errorf("%s: the same number follows", name(a))
		}
	}
	a := full()
	b := api.Header{Shard: a.Shard, Seq: a.Seq + 1, Prev: hashOf(plain(a)), Root: fill(9), Who: 4, Stamp: 5}
	for what, x := range turns(a) {
		if Follows(x, b) {
			t.Errorf("follows one with %s", what)
		}
	}
	for what, x := range turns(b) {
		// Of what follows Root, Who and Stamp may be any; its Root has 32 bytes still.
		want := x.Shard == b.Shard && x.Seq == b.Seq && x.Prev == b.Prev && len(x.Root) == 32
		if Follows(a, x) != want || Follows(a, x) != plainFollows(a, x) {
			t.Errorf("one with %s follows: %t", what, Follows(a, x))
		}
	}
}

// P12.1: behind the greatest number none follows, though one more of it is 0.
func TestFollowsGreatest(t *testing.T) {
	a := full()
	a.Seq = math.MaxUint64
	for _, seq := range []uint64{0, 1, math.MaxUint64 - 1, math.MaxUint64} {
		b := api.Header{Shard: a.Shard, Seq: seq, Prev: hashOf(plain(a)), Root: fill(9)}
		if Follows(a, b) {
			t.Errorf("%d follows", seq)
		}
	}
	b := api.Header{Shard: a.Shard, Seq: 0, Prev: hashOf(plain(a)), Root: fill(9)}
	noChain(t, "0 behind the greatest", "key", plainSigned("key", a), []api.Signed{plainSigned("key", b)})
}

// P12.1: what is no header follows none, and is followed by none, whatever its would-be hash.
func TestNoHeaderFollows(t *testing.T) {
	for _, h := range noHeaders() {
		b := api.Header{Shard: h.Shard, Seq: h.Seq + 1, Root: fill(9)}
		for _, prev := range []string{"", hashOf(""), hashOf(plain(h)), fill(0)} {
			b.Prev = prev
			if Follows(h, b) {
				t.Errorf("%s is followed by one of Prev %x", name(h), prev)
			}
		}
		a := api.Header{Shard: h.Shard, Seq: h.Seq - 1, Prev: fill(0), Root: fill(0)}
		h.Prev = hashOf(plain(a))
		if len(h.Root) != 32 && Follows(a, h) {
			t.Errorf("%s follows", name(h))
		}
	}
	if Follows(api.Header{}, api.Header{Seq: 1}) {
		t.Error("zero values follow")
	}
}
