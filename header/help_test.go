package header

import (
	"crypto/hmac"
	"crypto/sha256"
	"encoding/hex"
	"fmt"
	"math"
	"math/rand"
	"slices"
	"strings"
	"testing"

	"vidimus/api"
)

// size, num, text, rows: bytes by the words of layer 3.
func size(n int) string {
	if n < 128 {
		return string([]byte{byte(n)})
	}
	return string([]byte{byte(n%128 + 128)}) + size(n/128)
}

func num(n uint64) string {
	digits := ""
	for ; n > 0; n /= 256 {
		digits = string([]byte{byte(n % 256)}) + digits
	}
	return "n" + size(len(digits)) + digits
}

func text(s string) string { return "s" + size(len(s)) + s }

func rows(kids ...string) string { return "l" + size(len(kids)) + strings.Join(kids, "") }

// hashOf, sealOf: by the library's own.
func hashOf(s string) string {
	sum := sha256.Sum256([]byte(s))
	return string(sum[:])
}

func sealOf(key, s string) string {
	h := hmac.New(sha256.New, []byte(key))
	h.Write([]byte(s))
	return string(h.Sum(nil))
}

// parts: the bytes of each of a header's fields, in order.
func parts(h api.Header) []string {
	return []string{num(h.Shard), num(h.Seq), text(h.Prev), text(h.Root), num(h.Who), num(h.Stamp)}
}

// plain: a header's bytes by the words of the chapter, also of what is none.
func plain(h api.Header) string { return rows(parts(h)...) }

// plainSigned: h with the seal of its bytes, also of what is no header.
func plainSigned(key string, h api.Header) api.Signed {
	return api.Signed{Header: h, Mac: sealOf(key, plain(h))}
}

// plainRow: the bytes of a signed header's list.
func plainRow(s api.Signed) string { return rows(append(parts(s.Header), text(s.Mac))...) }

// plainText: the text of a list.
func plainText(l []api.Signed) string {
	var kids []string
	for _, s := range l {
		kids = append(kids, plainRow(s))
	}
	return rows(kids...)
}

// plainFollows, plainChain: by the words of the chapter.
func plainFollows(a, b api.Header) bool {
	if len(a.Prev) != 32 || len(a.Root) != 32 || len(b.Prev) != 32 || len(b.Root) != 32 {
		return false
	}
	return a.Shard == b.Shard && a.Seq < math.MaxUint64 && b.Seq == a.Seq+1 && b.Prev == hashOf(plain(a))
}

func plainChain(key string, from api.Signed, l []api.Signed) (api.Signed, bool) {
	if len(l) == 0 {
		return from, true
	}
	for i, s := range l {
		ahead := from
		if i > 0 {
			ahead = l[i-1]
		}
		if !plainFollows(ahead.Header, s.Header) || s != plainSigned(key, s.Header) {
			return api.Signed{}, false
		}
	}
	return l[len(l)-1], true
}

// fill: 32 bytes of one kind.
func fill(b byte) string { return strings.Repeat(string([]byte{b}), 32) }

// unhex: the bytes of digits that stand in a test.
func unhex(s string) string {
	b, err := hex.DecodeString(s)
	if err != nil {
		panic(err)
	}
	return string(b)
}

// turned: s with a bit turned.
func turned(s string, bit int) string {
	b := []byte(s)
	b[bit/8] ^= 1 << (bit % 8)
	return string(b)
}

// full: a header of which no field is zero.
func full() api.Header {
	return api.Header{Shard: 3, Seq: 258, Prev: hashOf("ahead"), Root: hashOf("root"), Who: 5, Stamp: 1 << 40}
}

// edges: numbers around each count of bytes, and the greatest.
func edges() []uint64 {
	out := []uint64{0, 1, 2, 127, 128, math.MaxUint64 - 1, math.MaxUint64}
	for bit := 8; bit < 64; bit += 8 {
		out = append(out, 1<<bit-1, 1<<bit, 1<<bit+1)
	}
	return out
}

// numbers: where a header's numbers are.
func numbers(h *api.Header) []*uint64 { return []*uint64{&h.Shard, &h.Seq, &h.Who, &h.Stamp} }

// headers: many right ones, each field at its edges.
func headers() []api.Header {
	var out []api.Header
	for _, from := range []api.Header{{Prev: fill(0), Root: fill(0)}, full()} {
		out = append(out, from)
		for i := range numbers(&from) {
			for _, n := range edges() {
				h := from
				*numbers(&h)[i] = n
				out = append(out, h)
			}
		}
		for _, s := range []string{fill(0), fill(255), fill('n'), hashOf("x")} {
			h, g := from, from
			h.Prev, g.Root = s, s
			out = append(out, h, g)
		}
	}
	return append(out, api.Header{
		Shard: math.MaxUint64, Seq: math.MaxUint64, Prev: fill(255), Root: fill(1), Who: math.MaxUint64, Stamp: math.MaxUint64,
	})
}

// noHeaders: of which Prev, or Root, or both, haven't 32 bytes.
func noHeaders() []api.Header {
	var out []api.Header
	for _, n := range []int{0, 1, 16, 31, 33, 63, 64, 288, 1000} {
		s := strings.Repeat("p", n)
		for _, h := range []api.Header{{Prev: fill(0), Root: fill(0)}, full()} {
			short, low, both := h, h, h
			short.Prev, low.Root, both.Prev, both.Root = s, s, s, s
			out = append(out, short, low, both)
		}
	}
	// As many bytes in both as a header has, but unlike.
	return append(out, api.Header{Prev: strings.Repeat("p", 31), Root: strings.Repeat("r", 33)})
}

// keys: of lengths around those that a seal treats unlike, of which none makes the seals of another one.
func keys() []string {
	return []string{"", "k", "key", strings.Repeat("k", 63), strings.Repeat("k", 64), strings.Repeat("k", 65), strings.Repeat("k", 1000)}
}

// name: of a header or a signed one, for what a test tells.
func name(x any) string {
	s := fmt.Sprintf("%+q", fmt.Sprintf("%+v", x))
	return s[:min(len(s), 400)]
}

// grown: so many headers behind from, each following the one ahead, signed; made by the chapter's words.
func grown(key string, from api.Signed, count int, salt string) []api.Signed {
	var out []api.Signed
	last := from.Header
	for i := range count {
		last = api.Header{
			Shard: last.Shard, Seq: last.Seq + 1, Prev: hashOf(plain(last)), Root: hashOf(fmt.Sprint(salt, i)), Who: uint64(i % 4), Stamp: uint64(i) << 33,
		}
		out = append(out, plainSigned(key, last))
	}
	return out
}

// anyHeader: one of chance, now and then none.
func anyHeader(r *rand.Rand) api.Header {
	hash := func() string {
		n := 32
		if r.Intn(20) == 0 {
			n = r.Intn(66)
		}
		b := make([]byte, n)
		r.Read(b)
		return string(b)
	}
	number := func() uint64 { return r.Uint64() >> r.Intn(64) }
	return api.Header{Shard: number(), Seq: number(), Prev: hash(), Root: hash(), Who: number(), Stamp: number()}
}

// without: l without the one at a place.
func without[T any](l []T, i int) []T { return slices.Delete(slices.Clone(l), i, i+1) }

// noChain: l is no chain from from on.
func noChain(t *testing.T, what, key string, from api.Signed, l []api.Signed) {
	t.Helper()
	if s, ok := Chain(key, from, l); ok || s != (api.Signed{}) {
		t.Errorf("%s: %s, %t", what, name(s), ok)
	}
}

// aChain: l is one, with that last one.
func aChain(t *testing.T, what, key string, from api.Signed, l []api.Signed, last api.Signed) {
	t.Helper()
	if s, ok := Chain(key, from, l); !ok || s != last {
		t.Errorf("%s: %s, %t", what, name(s), ok)
	}
}
