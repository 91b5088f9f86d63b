package aes

import (
	"bytes"
	"crypto/aes"
	"crypto/cipher"
	"encoding/hex"
	"math/big"
	"strings"
	"sync"
	"testing"

	"vidimus/api"
)

// varied: a text of n bytes in which no two blocks are the same; another seed, another text.
func varied(n, seed int) string {
	out := make([]byte, n)
	x := uint32(n) + uint32(seed)<<16 + 1
	for i := range out {
		x = x*1664525 + 1013904223
		out[i] = byte(x >> 24)
	}
	return string(out)
}

func raw(t *testing.T, digits string) string {
	t.Helper()
	s, err := hex.DecodeString(digits)
	if err != nil {
		t.Fatal(err)
	}
	return string(s)
}

func wantBlock(t *testing.T, key, block string) string {
	t.Helper()
	k, err := aes.NewCipher([]byte(key))
	if err != nil {
		t.Fatal(err)
	}
	out := make([]byte, blockLen)
	k.Encrypt(out, []byte(block))
	return string(out)
}

func wantStream(t *testing.T, key, number, s string) string {
	t.Helper()
	k, err := aes.NewCipher([]byte(key))
	if err != nil {
		t.Fatal(err)
	}
	out := make([]byte, len(s))
	cipher.NewCTR(k, []byte(number)).XORKeyStream(out, []byte(s))
	return string(out)
}

// product: of a and b as polynomials over two numbers, and then what is left of it behind the division by the field's one.
func product(a, b int) int {
	out := 0
	for i := range 8 {
		if b>>i&1 == 1 {
			out ^= a << i
		}
	}
	for i := 14; i >= 8; i-- {
		if out>>i&1 == 1 {
			out ^= 0x11b << (i - 8)
		}
	}
	return out
}

// wantBox: the box of b, bit by bit, its inverse sought among all bytes.
func wantBox(b int) byte {
	c, out := 0, 0
	for x := range 256 {
		if product(b, x) == 1 {
			c = x
		}
	}
	for i := range 8 {
		bit := 99 >> i & 1
		for _, d := range []int{0, 4, 5, 6, 7} {
			bit ^= c >> ((i + d) % 8) & 1
		}
		out |= bit << i
	}
	return byte(out)
}

// P2.1: the box of each byte, that of 0 among them.
func TestBox(t *testing.T) {
	seen := map[byte]int{}
	for b := range 256 {
		got := Box(byte(b))
		if got != wantBox(b) {
			t.Errorf("%02x: %02x", b, got)
		}
		if other, ok := seen[got]; ok {
			t.Errorf("%02x and %02x: %02x", other, b, got)
		}
		seen[got] = b
	}
	for b, want := range map[byte]byte{0: 0x63, 1: 0x7c, 2: 0x77, 0x10: 0xca, 0x52: 0x00, 0x53: 0xed, 0x80: 0xcd, 0xff: 0x16} {
		if got := Box(b); got != want {
			t.Errorf("%02x: %02x", b, got)
		}
	}
}

// The box that the once makes is Box.
func TestBoxesAreBox(t *testing.T) {
	made := Boxes()
	for b := range made {
		if got := Box(byte(b)); made[b] != got {
			t.Errorf("%02x: made %02x, %02x by Box", b, made[b], got)
		}
	}
	if made != boxBytes() {
		t.Error("made otherwise than blocks are worked out by")
	}
}

// P2.1: the field by which the box is made.
func TestField(t *testing.T) {
	for a := range 256 {
		if got := double(byte(a)); int(got) != product(a, 2) {
			t.Errorf("twice %02x: %02x", a, got)
		}
		for b := range 256 {
			if got := times(byte(a), byte(b)); int(got) != product(a, b) {
				t.Errorf("%02x times %02x: %02x", a, b, got)
			}
		}
		want := byte(1)
		if a == 0 {
			want = 0
		}
		if c := inverse(byte(a)); product(a, int(c)) != int(want) || a == 0 && c != 0 {
			t.Errorf("the inverse of %02x: %02x", a, c)
		}
	}
}

// P2.1: blocks that are known from elsewhere (FIPS 197; NIST SP 800-38A, F.1.1).
func TestBlockKnown(t *testing.T) {
	tests := []struct{ key, block, want string }{
		{"000102030405060708090a0b0c0d0e0f", "00112233445566778899aabbccddeeff", "69c4e0d86a7b0430d8cdb78070b4c55a"},
		{"2b7e151628aed2a6abf7158809cf4f3c", "3243f6a8885a308d313198a2e0370734", "3925841d02dc09fbdc118597196a0b32"},
		{"2b7e151628aed2a6abf7158809cf4f3c", "6bc1bee22e409f96e93d7e117393172a", "3ad77bb40d7a3660a89ecaf32466ef97"},
		{"2b7e151628aed2a6abf7158809cf4f3c", "ae2d8a571e03ac9c9eb76fac45af8e51", "f5d3d58503b9699de785895a96fdbaaf"},
		{"2b7e151628aed2a6abf7158809cf4f3c", "30c81c46a35ce411e5fbc1191a0a52ef", "43b1cd7f598ece23881b00e3ed030688"},
		{"2b7e151628aed2a6abf7158809cf4f3c", "f69f2445df4f9b17ad2b417be66c3710", "7b0c785e27e8ad3f8223207104725dd4"},
		{"00000000000000000000000000000000", "00000000000000000000000000000000", "66e94bd4ef8a2c3b884cfa59ca342b2e"},
		{"ffffffffffffffffffffffffffffffff", "00000000000000000000000000000000", "a1f6258c877d5fcd8964484538bfc92c"},
	}
	for _, x := range tests {
		got, e := Block(raw(t, x.key), raw(t, x.block))
		if e != api.OK || hex.EncodeToString([]byte(got)) != x.want {
			t.Errorf("%s under %s: %x, %d", x.block, x.key, got, e)
		}
	}
}

// P2.1: many keys and blocks: each byte at each place of either, and mixed ones.
func TestBlock(t *testing.T) {
	check := func(key, block string) {
		t.Helper()
		got, e := Block(key, block)
		if want := wantBlock(t, key, block); e != api.OK || got != want {
			t.Fatalf("%x under %x: %x, %d; asked for %x", block, key, got, e, want)
		}
	}
	for i := range blockLen {
		for b := range 256 {
			one := make([]byte, blockLen)
			one[i] = byte(b)
			check(string(one), varied(blockLen, i))
			check(varied(blockLen, i), string(one))
		}
	}
	for i := range 2000 {
		check(varied(blockLen, i), varied(blockLen, i+2000))
	}
}

// wrong: texts that haven't 16 bytes.
func wrong() []string {
	return []string{"", "x", varied(15, 1), varied(17, 1), varied(24, 1), varied(32, 1), strings.Repeat("\x00", 15), strings.Repeat("é", 16), varied(1000, 1)}
}

// P2.1: a key or a block that hasn't 16 bytes.
func TestBlockRefused(t *testing.T) {
	right := varied(blockLen, 1)
	check := func(key, block string) {
		t.Helper()
		if got, e := Block(key, block); got != "" || e != api.ErrArg {
			t.Errorf("a block of %d bytes under a key of %d: %x, %d", len(block), len(key), got, e)
		}
	}
	for _, x := range wrong() {
		check(x, right)
		check(right, x)
		for _, y := range wrong() {
			check(x, y)
		}
	}
	if got, e := Block(right, right); len(got) != blockLen || e != api.OK {
		t.Errorf("16 bytes: %x, %d", got, e)
	}
}

// P2.1: texts under a key and a number that are known from elsewhere (NIST SP 800-38A, F.5.1), and each beginning of one.
func TestStreamKnown(t *testing.T) {
	key := raw(t, "2b7e151628aed2a6abf7158809cf4f3c")
	number := raw(t, "f0f1f2f3f4f5f6f7f8f9fafbfcfdfeff")
	s := raw(t, "6bc1bee22e409f96e93d7e117393172aae2d8a571e03ac9c9eb76fac45af8e5130c81c46a35ce411e5fbc1191a0a52eff69f2445df4f9b17ad2b417be66c3710")
	want := raw(t, "874d6191b620e3261bef6864990db6ce9806f66b7970fdff8617187bb9fffdff5ae4df3edbd5d35e5b4f09020db03eab1e031dda2fbe03d1792170a0f3009cee")
	for n := range len(s) + 1 {
		if got, e := Stream(key, number, s[:n]); e != api.OK || got != want[:n] {
			t.Errorf("the first %d bytes: %x, %d", n, got, e)
		}
	}
}

// lengths: of no byte, around the first multiples of 16, and of many.
func lengths() []int {
	var out []int
	for n := range 100 {
		out = append(out, n)
	}
	return append(out, 255*16, 256*16, 257*16, 256*16+1, 10007)
}

// P2.1: texts of every length under numbers of every kind.
func TestStream(t *testing.T) {
	for _, n := range lengths() {
		for i := range 5 {
			key, number, s := varied(blockLen, i), varied(blockLen, n+i), varied(n, i)
			got, e := Stream(key, number, s)
			if want := wantStream(t, key, number, s); e != api.OK || got != want {
				t.Fatalf("%d bytes: %x, %d; asked for %x", n, got, e, want)
			}
		}
	}
}

// P2.1: the kth block of the stream is that of the number plus k, modulo 2^128, wherever the number goes on to its next byte, or round.
func TestStreamNumbers(t *testing.T) {
	key, whole := varied(blockLen, 1), new(big.Int).Lsh(big.NewInt(1), 128)
	var numbers []*big.Int
	for bit := uint(0); bit <= 128; bit += 4 {
		for d := int64(-3); d <= 3; d++ {
			x := new(big.Int).Lsh(big.NewInt(1), bit)
			numbers = append(numbers, x.Add(x, big.NewInt(d)))
		}
	}
	for _, number := range numbers {
		number.Mod(number, whole)
		text := number.FillBytes(make([]byte, blockLen))
		got, e := Stream(key, string(text), strings.Repeat("\x00", 6*blockLen))
		if e != api.OK || len(got) != 6*blockLen {
			t.Fatalf("%x: %d bytes, %d", text, len(got), e)
		}
		for k := range 6 {
			at := new(big.Int).Add(number, big.NewInt(int64(k)))
			block := at.Mod(at, whole).FillBytes(make([]byte, blockLen))
			want, e := Block(key, string(block))
			if e != api.OK || got[k*blockLen:][:blockLen] != want {
				t.Errorf("the block %d from %x on: %x", k, text, got[k*blockLen:][:blockLen])
			}
		}
	}
}

// P2.1: a key or a number that hasn't 16 bytes, whatever the text.
func TestStreamRefused(t *testing.T) {
	right := varied(blockLen, 1)
	check := func(key, number, s string) {
		t.Helper()
		if got, e := Stream(key, number, s); got != "" || e != api.ErrArg {
			t.Errorf("%d bytes under a key of %d and a number of %d: %x, %d", len(s), len(key), len(number), got, e)
		}
	}
	for _, s := range []string{"", "x", right, varied(100, 1)} {
		for _, x := range wrong() {
			check(x, right, s)
			check(right, x, s)
			for _, y := range wrong() {
				check(x, y, s)
			}
		}
	}
	if got, e := Stream(right, right, ""); got != "" || e != api.OK {
		t.Errorf("no byte: %x, %d", got, e)
	}
}

// P2.2: a text under a key and a number, once more under them, is the text; under others it isn't.
func TestBack(t *testing.T) {
	for _, n := range lengths() {
		for i := range 5 {
			key, number := varied(blockLen, i), varied(blockLen, n+i+1)
			for _, s := range []string{varied(n, i), strings.Repeat("\x00", n), strings.Repeat("\xff", n)} {
				once, e := Stream(key, number, s)
				if e != api.OK || len(once) != n || n >= blockLen && once == s {
					t.Fatalf("%x: %x, %d", s, once, e)
				}
				if back, e := Stream(key, number, once); e != api.OK || back != s {
					t.Fatalf("%x: back as %x, %d", s, back, e)
				}
				if back, _ := Stream(number, key, once); n >= blockLen && back == s {
					t.Fatalf("%x: back by the number as key", s)
				}
			}
		}
	}
	number := strings.Repeat("\xff", blockLen)
	once, _ := Stream(varied(blockLen, 1), number, varied(1000, 1))
	if back, e := Stream(varied(blockLen, 1), number, once); e != api.OK || back != varied(1000, 1) {
		t.Errorf("round 2^128: back as %x, %d", back, e)
	}
}

// unmake: as if nobody had asked for the box of all bytes yet.
func unmake() {
	boxOnce = sync.Once{}
	boxMade = [256]byte{}
}

// Whoever asks for the box of all bytes first, and however many at once, all are told the same.
func TestFirstAsked(t *testing.T) {
	defer unmake()
	want := makeBox()
	for range 50 {
		unmake()
		got := make([][256]byte, 8)
		var all sync.WaitGroup
		for i := range got {
			all.Go(func() { got[i] = Boxes() })
		}
		all.Wait()
		for i := range got {
			if got[i] != want {
				t.Fatalf("the asker %d: %x", i, got[i])
			}
		}
	}
}

// The box of all bytes is made when it is first asked for, and never again; what is answered is the caller's own.
func TestMadeOnce(t *testing.T) {
	defer unmake()
	unmake()
	got := Boxes()
	if boxMade != makeBox() {
		t.Error("not made when asked for")
	}
	got[0]++
	if Boxes() == got {
		t.Error("what was answered is what is kept")
	}
	for _, kept := range [][256]byte{got, {}} {
		boxMade = kept
		if Boxes() != kept {
			t.Error("made anew")
		}
	}
}

// P2.1, R7: what the chapter's calls answer hangs on their arguments alone: they neither make nor read what is kept.
func TestNothingKept(t *testing.T) {
	defer unmake()
	key, number, s := varied(blockLen, 1), varied(blockLen, 2), varied(100, 3)
	check := func(when string) {
		for b := range 256 {
			if got := Box(byte(b)); got != wantBox(b) {
				t.Errorf("the box of %02x: %02x %s", b, got, when)
			}
		}
		if got, e := Block(key, number); e != api.OK || got != wantBlock(t, key, number) {
			t.Errorf("%x, %d %s", got, e, when)
		}
		if got, e := Stream(key, number, s); e != api.OK || got != wantStream(t, key, number, s) {
			t.Errorf("%x, %d %s", got, e, when)
		}
	}
	unmake()
	check("ahead of the box")
	if boxMade != [256]byte{} {
		t.Error("made without being asked for")
	}
	Boxes()
	check("behind the box")
	boxMade = [256]byte{1, 2, 3}
	check("with another box kept")
}

// P0: no text makes a call panic, or answer otherwise than it is to.
func FuzzAll(f *testing.F) {
	for _, n := range []int{0, 1, 15, 16, 17, 32, 100} {
		f.Add(varied(n, 1), varied(16, 2), varied(n, 3))
		f.Add(varied(16, 1), varied(n, 2), varied(n, 3))
		f.Add(varied(16, 1), varied(16, 2), varied(n, 3))
	}
	f.Fuzz(func(t *testing.T, a, b, s string) {
		block, e := Block(a, b)
		stream, e2 := Stream(a, b, s)
		if len(a) != blockLen || len(b) != blockLen {
			if block != "" || e != api.ErrArg || stream != "" || e2 != api.ErrArg {
				t.Errorf("%q, %q, %q", a, b, s)
			}
			return
		}
		if block != wantBlock(t, a, b) || e != api.OK || stream != wantStream(t, a, b, s) || e2 != api.OK {
			t.Errorf("%q, %q, %q", a, b, s)
		}
	})
}

func BenchmarkStream(b *testing.B) {
	key, number, s := varied(blockLen, 1), varied(blockLen, 2), string(bytes.Repeat([]byte("x"), 1<<16))
	b.SetBytes(int64(len(s)))
	for b.Loop() {
		Stream(key, number, s)
	}
}

func BenchmarkBlock(b *testing.B) {
	key, block := varied(blockLen, 1), varied(blockLen, 2)
	for b.Loop() {
		Block(key, block)
	}
}
