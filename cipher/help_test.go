package cipher

import (
	"crypto/aes"
	stream "crypto/cipher"
	"crypto/hmac"
	"crypto/sha256"
	"encoding/hex"
	"fmt"
	"math"
	"math/rand"
	"strings"
	"testing"

	"vidimus/api"
	"vidimus/tape"
)

// size, num, text, list: bytes by the words of layer 3.
func size(n int) string {
	if n < 128 {
		return string([]byte{byte(n)})
	}
	return string([]byte{byte(n%128 + 128)}) + size(n/128)
}

func num(n uint64) string {
	digits := ""
	for ; n > 0; n /= 256 {
		digits = string([]byte{byte(n % 256)}) + digits
	}
	return "n" + size(len(digits)) + digits
}

func text(s string) string { return "s" + size(len(s)) + s }

func list(kids ...string) string { return "l" + size(len(kids)) + strings.Join(kids, "") }

// plainValue: the bytes of the list that a value is.
func plainValue(v api.Val) string {
	switch v.Kind {
	case api.Int:
		return list(num(1), num(uint64(v.N)))
	case api.Text:
		return list(num(2), text(v.S))
	}
	return list(num(0))
}

// sealOf: by the library's own.
func sealOf(key, s string) string {
	h := hmac.New(sha256.New, []byte(key))
	h.Write([]byte(s))
	return string(h.Sum(nil))
}

// plain: places and cells of a master, by the words of the chapter.
type plain struct{ master string }

func (p plain) token(kids ...string) string { return sealOf(p.master, list(kids...)) }

func (p plain) catalog(table string) string { return p.token(text("catalog"), text(table)) }

func (p plain) rows(table string) string { return p.token(text("rows"), text(table))[:8] }

func (p plain) entries(table, col string, v api.Val) string {
	return p.token(text("entry"), text(table), text(col), plainValue(v))[:16]
}

func (p plain) own(table string, key api.Val) string {
	return p.token(text("row"), text(table), plainValue(key))
}

func (p plain) row(table string, key api.Val) string {
	return p.rows(table) + p.own(table, key)[:24]
}

func (p plain) entry(table, col string, v, key api.Val) string {
	return p.entries(table, col, v) + p.own(table, key)[:16]
}

// under: s under the key of the cells and the number, by the library's own; whatever s is.
func (p plain) under(number, s string) string {
	block, err := aes.NewCipher([]byte(p.token(text("cell"))[:16]))
	if err != nil {
		panic(err)
	}
	out := make([]byte, len(s))
	stream.NewCTR(block, []byte(number)).XORKeyStream(out, []byte(s))
	return string(out)
}

// sealed: what has the right seal at the place, whatever s is.
func (p plain) sealed(place, number, s string) string {
	hidden := p.under(number, s)
	return number + hidden + sealOf(p.token(text("seal")), place+number+hidden)[:16]
}

func (p plain) cell(place, number, s string) string {
	return p.sealed(place, number, full(s))
}

// plainBucket: by the words of the chapter.
func plainBucket(n int) int {
	if n < 0 || n > 4000 {
		return 0
	}
	for _, bucket := range []int{32, 64, 128, 256, 512, 1024, 2048} {
		if n+4 <= bucket {
			return bucket
		}
	}
	return 4096
}

// sized: s behind a length, told to be n.
func sized(n uint32, s string) string {
	return string([]byte{byte(n >> 24), byte(n >> 16), byte(n >> 8), byte(n)}) + s
}

// full: s behind its length, with bytes 0 up to its bucket.
func full(s string) string {
	out := sized(uint32(len(s)), s)
	return out + strings.Repeat("\x00", plainBucket(len(s))-len(out))
}

// null, number, word: values.
func null() api.Val { return api.Val{} }

func number(n int64) api.Val { return api.Val{Kind: api.Int, N: n} }

func word(s string) api.Val { return api.Val{Kind: api.Text, S: s} }

// values: many, each once.
func values() []api.Val {
	out := []api.Val{null(), number(math.MinInt64), number(math.MinInt64 + 1), number(math.MaxInt64)}
	for _, n := range []int64{0, 1, 2, 7, 127, 128, 255, 256, 65535, 65536, 1 << 32, 1 << 56} {
		out = append(out, number(n), number(-1-n))
	}
	for _, s := range []string{"", "a", "b", "ab", "0", "7", "null", "\x00", "\x00\x00", "\xff\xfe", "n\x00", "s\x01a", "é"} {
		out = append(out, word(s))
	}
	for _, n := range []int{126, 127, 128, 129, 199, 200} {
		out = append(out, word(strings.Repeat("a", n)), word(strings.Repeat("\x00", n)))
	}
	return out
}

// noValues: of a kind that there is none, with something in a field of another kind, or too long.
func noValues() []api.Val {
	out := []api.Val{
		{Kind: api.Null, N: 1}, {Kind: api.Null, N: -1}, {Kind: api.Null, S: "a"}, {Kind: api.Null, S: "\x00"}, {Kind: api.Null, N: 1, S: "a"},
		{Kind: api.Int, S: "a"}, {Kind: api.Int, N: 1, S: "1"}, {Kind: api.Int, S: strings.Repeat("a", 300)},
		{Kind: api.Text, N: 1}, {Kind: api.Text, N: -1, S: "a"}, {Kind: api.Text, N: math.MinInt64},
	}
	for _, n := range []int{201, 202, 255, 256, 4000, 1 << 16, api.MaxBytes + 1} {
		out = append(out, word(strings.Repeat("a", n)))
	}
	for _, kind := range []int{-1, -2, 3, 4, 256, 257, 258, 1 << 32, 1<<32 + 1, 1<<32 + 2, math.MaxInt, math.MinInt, math.MinInt + 1, math.MinInt + 2} {
		out = append(out, api.Val{Kind: kind}, api.Val{Kind: kind, N: 1}, api.Val{Kind: kind, S: "a"})
	}
	return out
}

// masters: of lengths around those that a seal treats unlike, of which none makes the seals of another one.
func masters() []string {
	return []string{"", "m", "master", "mastes", strings.Repeat("m", 63), strings.Repeat("m", 64), strings.Repeat("m", 65), strings.Repeat("m", 1000)}
}

// names: of tables and columns; some have another one's bytes within them.
func names() []string {
	return []string{"", "t", "a", "b", "ab", "rows", "row", "entry", "catalog", "cell", "seal", "s\x01a", "\x00", strings.Repeat("t", 30), strings.Repeat("t", 200)}
}

// chance: a tape of so many bytes, no 16 of which come twice.
func chance(n int) *tape.Tape { return tape.New(chanceText(n)) }

func chanceText(n int) string {
	b := make([]byte, n)
	rand.New(rand.NewSource(15)).Read(b)
	return string(b)
}

// unhex: the bytes of digits that stand in a test.
func unhex(s string) string {
	b, err := hex.DecodeString(s)
	if err != nil {
		panic(err)
	}
	return string(b)
}

// name: of anything, for what a test tells.
func name(x any) string {
	s := fmt.Sprintf("%+q", fmt.Sprintf("%+v", x))
	return s[:min(len(s), 300)]
}

// without: s without the byte at i, and with it turned by x.
func without(s string, i int) string { return s[:i] + s[i+1:] }

func turned(s string, i int, x byte) string { return s[:i] + string([]byte{s[i] ^ x}) + s[i+1:] }

// opens: that is the text's cell there.
func opens(t *testing.T, what string, c Cipher, place, cell, want string) {
	t.Helper()
	if got, ok := c.Open(place, cell); got != want || !ok {
		t.Errorf("%s: %s, %t; asked for %s", what, name(got), ok, name(want))
	}
}

// stays: that is no cell there.
func stays(t *testing.T, what string, c Cipher, place, cell string) {
	t.Helper()
	if got, ok := c.Open(place, cell); got != "" || ok {
		t.Errorf("%s: %s, %t", what, name(got), ok)
	}
}
