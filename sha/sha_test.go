package sha

import (
	"crypto/hmac"
	"crypto/sha256"
	"encoding/hex"
	"math/big"
	"strings"
	"sync"
	"testing"
)

// varied: a text of n bytes in which no two blocks are the same.
func varied(n int) string {
	out := make([]byte, n)
	x := uint32(n) + 1
	for i := range out {
		x = x*1664525 + 1013904223
		out[i] = byte(x >> 24)
	}
	return string(out)
}

func wantSum(s string) string {
	sum := sha256.Sum256([]byte(s))
	return string(sum[:])
}

func wantMac(key, s string) string {
	h := hmac.New(sha256.New, []byte(key))
	h.Write([]byte(s))
	return string(h.Sum(nil))
}

// P1.1: hashes that are known from elsewhere.
func TestSumKnown(t *testing.T) {
	tests := []struct{ name, s, want string }{
		{"nothing", "", "e3b0c44298fc1c149afbf4c8996fb92427ae41e4649b934ca495991b7852b855"},
		{"abc", "abc", "ba7816bf8f01cfea414140de5dae2223b00361a396177a9cb410ff61f20015ad"},
		{"56 bytes", "abcdbcdecdefdefgefghfghighijhijkijkljklmklmnlmnomnopnopq", "248d6a61d20638b8e5c026930c3e6039a33ce45964ff2167f6ecedd419db06c1"},
		{"112 bytes", "abcdefghbcdefghicdefghijdefghijkefghijklfghijklmghijklmnhijklmnoijklmnopjklmnopqklmnopqrlmnopqrsmnopqrstnopqrstu", "cf5b16a778af8380036ce59e7b0492370b249b11e8f07a51afac45037afee9d1"},
		{"a million", strings.Repeat("a", 1000000), "cdc76e5c9914fb9281a1c7e284d73e67f1809a48a497200e046d39ccc7112cd0"},
	}
	for _, x := range tests {
		if got := Hex(Sum(x.s)); got != x.want {
			t.Errorf("%s: %s", x.name, got)
		}
	}
}

// P1.1: every length around the first multiples of 64, and some greater ones.
func TestSumLengths(t *testing.T) {
	var lengths []int
	for n := range 400 {
		lengths = append(lengths, n)
	}
	for d := -65; d <= 65; d++ {
		lengths = append(lengths, 1<<10+d, 1<<13+d)
	}
	for _, n := range lengths {
		for _, s := range []string{varied(n), strings.Repeat("\x00", n), strings.Repeat("\xff", n)} {
			got := Sum(s)
			if len(got) != 32 || got != wantSum(s) {
				t.Fatalf("of %d bytes: %x", n, got)
			}
		}
	}
}

// P1.1: the length is in bits, in eight bytes, the highest first, whatever it is.
func TestEndingLength(t *testing.T) {
	tests := []struct {
		left string
		n    uint64
		want string
	}{
		{"", 0, "\x80" + strings.Repeat("\x00", 63)},
		{"", 64, "\x80" + strings.Repeat("\x00", 61) + "\x02\x00"},
		{varied(55), 55, varied(55) + "\x80\x00\x00\x00\x00\x00\x00\x01\xb8"},
		{varied(56), 56, varied(56) + "\x80" + strings.Repeat("\x00", 69) + "\x01\xc0"},
		{varied(63), 1<<29 - 1, varied(63) + "\x80" + strings.Repeat("\x00", 60) + "\xff\xff\xff\xf8"},
		{"", 1 << 29, "\x80" + strings.Repeat("\x00", 58) + "\x01\x00\x00\x00\x00"},
		{"x", 1<<31 - 1, "x\x80" + strings.Repeat("\x00", 57) + "\x03\xff\xff\xff\xf8"},
	}
	for _, x := range tests {
		if got := ending(x.left, x.n); got != x.want {
			t.Errorf("%d bytes left of %d: %x", len(x.left), x.n, got)
		}
	}
}

// P1.1: seals that are known from elsewhere (RFC 4231).
func TestMacKnown(t *testing.T) {
	tests := []struct{ key, s, want string }{
		{strings.Repeat("\x0b", 20), "Hi There", "b0344c61d8db38535ca8afceaf0bf12b881dc200c9833da726e9376c2e32cff7"},
		{"Jefe", "what do ya want for nothing?", "5bdcc146bf60754e6a042426089575c75a003f089d2739839dec58b964ec3843"},
		{strings.Repeat("\xaa", 20), strings.Repeat("\xdd", 50), "773ea91e36800e46854db8ebd09181a72959098b3ef8c122d9635514ced565fe"},
		{strings.Repeat("\xaa", 131), "Test Using Larger Than Block-Size Key - Hash Key First", "60e431591ee0b67f0d8a26aacbf5b77f8e0bc6213728c5140546040f0ee37f54"},
	}
	for _, x := range tests {
		if got := Hex(Mac(x.key, x.s)); got != x.want {
			t.Errorf("%q, %q: %s", x.key, x.s, got)
		}
	}
}

// P1.1: keys of every length up to 64, of 64, and of more; texts around the ends of blocks.
func TestMacLengths(t *testing.T) {
	for k := range 200 {
		key := varied(k)
		for _, n := range []int{0, 1, 31, 32, 54, 55, 56, 63, 64, 65, 119, 120, 128, 1000} {
			s := varied(n)
			got := Mac(key, s)
			if len(got) != 32 || got != wantMac(key, s) {
				t.Fatalf("a key of %d bytes, a text of %d: %x", k, n, got)
			}
		}
	}
}

// P1.1: a key of up to 64 bytes is filled up with 0, one of more is its hash.
func TestMacKeys(t *testing.T) {
	short, whole, long := varied(63), varied(64), varied(65)
	if Mac(short, "x") != Mac(short+"\x00", "x") {
		t.Error("63 bytes aren't filled up with 0")
	}
	if Mac(whole, "x") == Mac(Sum(whole), "x") {
		t.Error("64 bytes are hashed")
	}
	if Mac(long, "x") != Mac(Sum(long), "x") {
		t.Error("65 bytes aren't hashed")
	}
	if Mac("", "") != Mac(strings.Repeat("\x00", 64), "") {
		t.Error("no key isn't 64 bytes 0")
	}
	if Mac("k", "xy") == Mac("kx", "y") {
		t.Error("the key runs into the text")
	}
}

// P1.1: two small letters a byte, and back.
func TestHex(t *testing.T) {
	for b := range 256 {
		s := string([]byte{byte(b)})
		got := Hex(s)
		if got != hex.EncodeToString([]byte(s)) {
			t.Errorf("%d: %q", b, got)
		}
		if back, ok := Raw(got); !ok || back != s {
			t.Errorf("%q: %q, %v", got, back, ok)
		}
	}
	for n := range 70 {
		s := varied(n)
		if got := Hex(s); got != hex.EncodeToString([]byte(s)) {
			t.Errorf("%x: %q", s, got)
		}
	}
}

// P1.1: each pair of bytes is either the digits of one byte, or of none.
func TestRawPairs(t *testing.T) {
	const small = "0123456789abcdef"
	for a := range 256 {
		for b := range 256 {
			text := string([]byte{byte(a), byte(b)})
			high, low := strings.IndexByte(small, byte(a)), strings.IndexByte(small, byte(b))
			want, wantOK := "", false
			if high >= 0 && low >= 0 {
				want, wantOK = string([]byte{byte(high*16 + low)}), true
			}
			if got, ok := Raw(text); got != want || ok != wantOK {
				t.Errorf("%q: %q, %v", text, got, ok)
			}
		}
	}
}

// P1.1: of other texts nothing is told, wherever the fault stands.
func TestRawRefused(t *testing.T) {
	right := Hex(varied(9))
	for i := range right {
		for _, wrong := range []string{"A", "F", "g", "/", ":", "`", "@", "G", " ", "\x00", "\xff", "é"} {
			text := right[:i] + wrong + right[i+1:]
			if got, ok := Raw(text); ok || got != "" {
				t.Errorf("%q: %q, %v", text, got, ok)
			}
		}
		if got, ok := Raw(right[:i]); ok != (i%2 == 0) || len(got) != i/2*(1-i%2) {
			t.Errorf("the first %d: %q, %v", i, got, ok)
		}
	}
	for _, text := range []string{"0", "000", "AB", "aB", "0g", "0x00", "00 ", " 00", "-1", "+1", "0_0_", "00\n", "é"} {
		if got, ok := Raw(text); ok || got != "" {
			t.Errorf("%q: %q, %v", text, got, ok)
		}
	}
	if got, ok := Raw(""); !ok || got != "" {
		t.Errorf("nothing: %q, %v", got, ok)
	}
}

// fraction: the first 32 bits behind the point of the nth root of p, by long numbers.
func fraction(p, n int64) uint32 {
	limit := new(big.Int).Lsh(big.NewInt(p), uint(32*n))
	low, high := big.NewInt(0), big.NewInt(1<<40)
	for new(big.Int).Sub(high, low).Cmp(big.NewInt(1)) > 0 {
		mid := new(big.Int).Rsh(new(big.Int).Add(low, high), 1)
		if new(big.Int).Exp(mid, big.NewInt(n), nil).Cmp(limit) <= 0 {
			low = mid
		} else {
			high = mid
		}
	}
	return uint32(low.Uint64())
}

// P1.1: the state and the rounds' numbers are the primes' roots.
func TestRoots(t *testing.T) {
	written, made, n := roundNumbers(), Rounds(), 0
	for p := int64(2); n < 64; p++ {
		if !big.NewInt(p).ProbablyPrime(10) {
			continue
		}
		if n < 8 && start[n] != fraction(p, 2) {
			t.Errorf("the square root of %d: %x", p, start[n])
		}
		if want := fraction(p, 3); written[n] != want || made[n] != want {
			t.Errorf("the cube root of %d: written %x, made %x", p, written[n], made[n])
		}
		n++
	}
}

// The numbers that the once makes are those by which Sum works.
func TestRoundsAreSums(t *testing.T) {
	made, k := Rounds(), roundNumbers()
	if made != k {
		t.Fatalf("made %x, worked by %x", made, k)
	}
	for _, n := range []int{0, 1, 55, 56, 64, 65, 300} {
		s := varied(n)
		whole := len(s) - len(s)%blockLen
		state, text := start, s[:whole]+ending(s[whole:], uint64(len(s)))
		for i := 0; i < len(text); i += blockLen {
			mix(&state, &made, text[i:i+blockLen])
		}
		if got := joined(state); got != Sum(s) {
			t.Errorf("of %d bytes by the numbers made: %x", n, got)
		}
	}
}

// unmake: as if nobody had asked for the rounds' numbers yet.
func unmake() {
	roundsOnce = sync.Once{}
	roundsMade = [64]uint32{}
}

// Whoever asks for the rounds' numbers first, and however many at once, all are told the same.
func TestFirstAsked(t *testing.T) {
	defer unmake()
	want := makeRounds()
	for range 50 {
		unmake()
		got := make([][64]uint32, 8)
		var all sync.WaitGroup
		for i := range got {
			all.Go(func() { got[i] = Rounds() })
		}
		all.Wait()
		for i := range got {
			if got[i] != want {
				t.Fatalf("the asker %d: %x", i, got[i])
			}
		}
	}
}

// The rounds' numbers are made when they are first asked for, and never again; what is answered is the caller's own.
func TestMadeOnce(t *testing.T) {
	defer unmake()
	unmake()
	got := Rounds()
	if roundsMade != makeRounds() {
		t.Error("not made when asked for")
	}
	got[0]++
	if Rounds() == got {
		t.Error("what was answered is what is kept")
	}
	for _, kept := range [][64]uint32{got, {}} {
		roundsMade = kept
		if Rounds() != kept {
			t.Error("made anew")
		}
	}
}

// P1.1, R7: what the chapter's calls answer hangs on their arguments alone: they neither make nor read what is kept.
func TestNothingKept(t *testing.T) {
	defer unmake()
	check := func(when string) {
		if s := varied(200); Sum(s) != wantSum(s) || Mac("k", s) != wantMac("k", s) {
			t.Error("another hash or seal", when)
		}
		if text := Hex("\x00\xff"); text != "00ff" {
			t.Error(text, when)
		}
		if s, ok := Raw("00ff"); !ok || s != "\x00\xff" {
			t.Errorf("%q %v %s", s, ok, when)
		}
	}
	unmake()
	check("ahead of the numbers")
	if roundsMade != [64]uint32{} {
		t.Error("made without being asked for")
	}
	Rounds()
	check("behind the numbers")
	roundsMade = [64]uint32{1, 2, 3}
	check("with other numbers kept")
}

// P0: no text makes a call panic, or answer otherwise than it is to.
func FuzzAll(f *testing.F) {
	for _, n := range []int{0, 1, 55, 56, 63, 64, 65, 128, 300} {
		f.Add(varied(n), varied(300-n))
	}
	f.Add("00ff", "AB")
	f.Add("\xc3\x28", "é")
	f.Fuzz(func(t *testing.T, a, b string) {
		if Sum(a) != wantSum(a) || Mac(a, b) != wantMac(a, b) {
			t.Errorf("%q, %q", a, b)
		}
		if back, ok := Raw(Hex(a)); !ok || back != a {
			t.Errorf("%q: %q, %v", a, back, ok)
		}
		got, ok := Raw(a)
		if ok && Hex(got) != a || !ok && got != "" {
			t.Errorf("%q: %q, %v", a, got, ok)
		}
	})
}

func BenchmarkSum(b *testing.B) {
	s := varied(1 << 16)
	b.SetBytes(int64(len(s)))
	for b.Loop() {
		Sum(s)
	}
}
