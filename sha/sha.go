// Package sha makes hashes of texts, and seals that only a key's holders make: see shared/doc/01-sha.md.
package sha

import (
	"math/bits"
	"sync"
)

const (
	blockLen = 64
	outerPad = 92
	innerPad = 54
	digits   = "0123456789abcdef"
)

// start: the first 32 bits behind the point of the square roots of the first 8 primes.
var start = [8]uint32{
	0x6a09e667, 0xbb67ae85, 0x3c6ef372, 0xa54ff53a,
	0x510e527f, 0x9b05688c, 0x1f83d9ab, 0x5be0cd19,
}

// The rounds' numbers are 64 roots, too dear to be worked out for each hash.
var (
	roundsOnce sync.Once
	roundsMade [64]uint32
)

// Sum: the hash of s, 32 bytes.
func Sum(s string) string {
	state, k := start, rounds()
	whole := len(s) - len(s)%blockLen
	for i := 0; i < whole; i += blockLen {
		mix(&state, &k, s[i:i+blockLen])
	}
	end := ending(s[whole:], uint64(len(s)))
	for i := 0; i < len(end); i += blockLen {
		mix(&state, &k, end[i:i+blockLen])
	}
	return joined(state)
}

// Mac: the seal of s by the key, 32 bytes.
func Mac(key, s string) string {
	if len(key) > blockLen {
		key = Sum(key)
	}
	return Sum(masked(key, outerPad) + Sum(masked(key, innerPad)+s))
}

// Hex: two digits for each byte of s.
func Hex(s string) string {
	out := make([]byte, 0, 2*len(s))
	for i := range len(s) {
		out = append(out, digits[s[i]>>4], digits[s[i]&15])
	}
	return string(out)
}

// Raw: the bytes of which text is the Hex, and whether there are any such.
func Raw(text string) (string, bool) {
	if len(text)%2 != 0 {
		return "", false
	}
	out := make([]byte, 0, len(text)/2)
	for i := 0; i < len(text); i += 2 {
		high, ok := digit(text[i])
		low, ok2 := digit(text[i+1])
		if !ok || !ok2 {
			return "", false
		}
		out = append(out, high<<4|low)
	}
	return string(out), true
}

func digit(c byte) (byte, bool) {
	switch {
	case '0' <= c && c <= '9':
		return c - '0', true
	case 'a' <= c && c <= 'f':
		return c - 'a' + 10, true
	}
	return 0, false
}

// masked: the key, filled up to a block, each byte of it xor mask.
func masked(key string, mask byte) string {
	var block [blockLen]byte
	copy(block[:], key)
	for i := range block {
		block[i] ^= mask
	}
	return string(block[:])
}

// ending: what is left of a text of n bytes behind its whole blocks, filled up to one block or two.
func ending(left string, n uint64) string {
	out := make([]byte, 0, 2*blockLen)
	out = append(out, left...)
	out = append(out, 128)
	for len(out)%blockLen != blockLen-8 {
		out = append(out, 0)
	}
	for shift := 56; shift >= 0; shift -= 8 {
		out = append(out, byte(n*8>>shift))
	}
	return string(out)
}

// joined: the state's bytes, the highest of each number first.
func joined(state [8]uint32) string {
	out := make([]byte, 0, 32)
	for _, x := range state {
		out = append(out, byte(x>>24), byte(x>>16), byte(x>>8), byte(x))
	}
	return string(out)
}

// mix: the state goes on over one block, by the rounds' numbers k.
func mix(state *[8]uint32, k *[64]uint32, block string) {
	w := schedule(block)
	a, b, c, d := state[0], state[1], state[2], state[3]
	e, f, g, h := state[4], state[5], state[6], state[7]
	for t := range 64 {
		one := h + (turn(e, 6) ^ turn(e, 11) ^ turn(e, 25)) + (e&f ^ ^e&g) + k[t] + w[t]
		two := (turn(a, 2) ^ turn(a, 13) ^ turn(a, 22)) + (a&b ^ a&c ^ b&c)
		a, b, c, d, e, f, g, h = one+two, a, b, c, d+one, e, f, g
	}
	state[0] += a
	state[1] += b
	state[2] += c
	state[3] += d
	state[4] += e
	state[5] += f
	state[6] += g
	state[7] += h
}

// schedule: a block's 16 numbers, and the 48 that come of them.
func schedule(block string) [64]uint32 {
	var w [64]uint32
	for t := range 16 {
		i := 4 * t
		w[t] = uint32(block[i])<<24 | uint32(block[i+1])<<16 | uint32(block[i+2])<<8 | uint32(block[i+3])
	}
	for t := 16; t < len(w); t++ {
		x, y := w[t-15], w[t-2]
		w[t] = w[t-16] + (turn(x, 7) ^ turn(x, 18) ^ x>>3) + w[t-7] + (turn(y, 17) ^ turn(y, 19) ^ y>>10)
	}
	return w
}

// turn: x turned right by n bits.
func turn(x uint32, n int) uint32 {
	return bits.RotateLeft32(x, -n)
}

// rounds: the rounds' numbers, made when they are first asked for.
func rounds() [64]uint32 {
	roundsOnce.Do(func() { roundsMade = makeRounds() })
	return roundsMade
}

// makeRounds: the first 32 bits behind the point of the cube roots of the first 64 primes.
func makeRounds() [64]uint32 {
	var made [64]uint32
	for p, n := uint64(2), 0; n < len(made); p++ {
		if prime(p) {
			made[n] = uint32(cubeRoot(p))
			n++
		}
	}
	return made
}

func prime(n uint64) bool {
	for d := uint64(2); d*d <= n; d++ {
		if n%d == 0 {
			return false
		}
	}
	return true
}

// cubeRoot: the cube root of a prime below 512, times 2^32, cut to a whole number.
func cubeRoot(p uint64) uint64 {
	root := uint64(0)
	for bit := uint64(1) << 34; bit > 0; bit >>= 1 {
		if below(root|bit, p) {
			root |= bit
		}
	}
	return root
}

// below: whether x / 2^32 is below the cube root of p. The cube of x (which is below 2^35) has more than 64 bits; p times 2^96 is p<<32 in the upper ones, and 0 in the lower.
func below(x, p uint64) bool {
	high, low := bits.Mul64(x, x)
	carry, _ := bits.Mul64(low, x)
	return high*x+carry < p<<32
}
