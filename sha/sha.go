// Package sha makes hashes of texts, and seals that only a key's holders make: see shared/doc/01-sha.md.
package sha

import (
	"math/bits"
	"sync"
)

const (
	blockLen = 64
	outerPad = 92
	innerPad = 54
	digits   = "0123456789abcdef"
)

// start: the first 32 bits behind the point of the square roots of the first 8 primes.
var start = [8]uint32{
	0x6a09e667, 0xbb67ae85, 0x3c6ef372, 0xa54ff53a,
	0x510e527f, 0x9b05688c, 0x1f83d9ab, 0x5be0cd19,
}

// The rounds' numbers as the primes' roots make them, too dear to be worked out more than once.
var (
	roundsOnce sync.Once
	roundsMade [64]uint32
)

// Sum: the hash of s, 32 bytes.
func Sum(s string) string {
	state, k := start, roundNumbers()
	whole := len(s) - len(s)%blockLen
	for i := 0; i < whole; i += blockLen {
		mix(&state, &k, s[i:i+blockLen])
	}
	end := ending(s[whole:], uint64(len(s)))
	for i := 0; i < len(end); i += blockLen {
		mix(&state, &k, end[i:i+blockLen])
	}
	return joined(state)
}

// Mac: the seal of s by the key, 32 bytes.
func Mac(key, s string) string {
	if len(key) > blockLen {
		key = Sum(key)
	}
	return Sum(masked(key, outerPad) + Sum(masked(key, innerPad)+s))
}

// Hex: two digits for each byte of s.
func Hex(s string) string {
	out := make([]byte, 0, 2*len(s))
	for i := range len(s) {
		out = append(out, digits[s[i]>>4], digits[s[i]&15])
	}
	return string(out)
}

// Raw: the bytes of which text is the Hex, and whether there are any such.
func Raw(text string) (string, bool) {
	if len(text)%2 != 0 {
		return "", false
	}
	out := make([]byte, 0, len(text)/2)
	for i := 0; i < len(text); i += 2 {
		high, ok := digit(text[i])
		low, ok2 := digit(text[i+1])
		if !ok || !ok2 {
			return "", false
		}
		out = append(out, high<<4|low)
	}
	return string(out), true
}

// Rounds: the rounds' numbers, made when they are first asked for.
func Rounds() [64]uint32 {
	roundsOnce.Do(func() { roundsMade = makeRounds() })
	return roundsMade
}

func digit(c byte) (byte, bool) {
	switch {
	case '0' <= c && c <= '9':
		return c - '0', true
	case 'a' <= c && c <= 'f':
		return c - 'a' + 10, true
	}
	return 0, false
}

// masked: the key, filled up to a block, each byte of it xor mask.
func masked(key string, mask byte) string {
	var block [blockLen]byte
	copy(block[:], key)
	for i := range block {
		block[i] ^= mask
	}
	return string(block[:])
}

// ending: what is left of a text of n bytes behind its whole blocks, filled up to one block or two.
func ending(left string, n uint64) string {
	out := make([]byte, 0, 2*blockLen)
	out = append(out, left...)
	out = append(out, 128)
	for len(out)%blockLen != blockLen-8 {
		out = append(out, 0)
	}
	for shift := 56; shift >= 0; shift -= 8 {
		out = append(out, byte(n*8>>shift))
	}
	return string(out)
}

// joined: the state's bytes, the highest of each number first.
func joined(state [8]uint32) string {
	out := make([]byte, 0, 32)
	for _, x := range state {
		out = append(out, byte(x>>24), byte(x>>16), byte(x>>8), byte(x))
	}
	return string(out)
}

// mix: the state goes on over one block, by the rounds' numbers k.
func mix(state *[8]uint32, k *[64]uint32, block string) {
	w := schedule(block)
	a, b, c, d := state[0], state[1], state[2], state[3]
	e, f, g, h := state[4], state[5], state[6], state[7]
	for t := range 64 {
		one := h + (turn(e, 6) ^ turn(e, 11) ^ turn(e, 25)) + (e&f ^ ^e&g) + k[t] + w[t]
		two := (turn(a, 2) ^ turn(a, 13) ^ turn(a, 22)) + (a&b ^ a&c ^ b&c)
		a, b, c, d, e, f, g, h = one+two, a, b, c, d+one, e, f, g
	}
	state[0] += a
	state[1] += b
	state[2] += c
	state[3] += d
	state[4] += e
	state[5] += f
	state[6] += g
	state[7] += h
}

// schedule: a block's 16 numbers, and the 48 that come of them.
func schedule(block string) [64]uint32 {
	var w [64]uint32
	for t := range 16 {
		i := 4 * t
		w[t] = uint32(block[i])<<24 | uint32(block[i+1])<<16 | uint32(block[i+2])<<8 | uint32(block[i+3])
	}
	for t := 16; t < len(w); t++ {
		x, y := w[t-15], w[t-2]
		w[t] = w[t-16] + (turn(x, 7) ^ turn(x, 18) ^ x>>3) + w[t-7] + (turn(y, 17) ^ turn(y, 19) ^ y>>10)
	}
	return w
}

// turn: x turned right by n bits.
func turn(x uint32, n int) uint32 {
	return bits.RotateLeft32(x, -n)
}

// roundNumbers: the rounds' numbers, written out, so that a hash hangs on nothing that is kept; Rounds vouches for them.
func roundNumbers() [64]uint32 {
	return [64]uint32{
		0x428a2f98, 0x71374491, 0xb5c0fbcf, 0xe9b5dba5,
		0x3956c25b, 0x59f111f1, 0x923f82a4, 0xab1c5ed5,
		0xd807aa98, 0x12835b01, 0x243185be, 0x550c7dc3,
		0x72be5d74, 0x80deb1fe, 0x9bdc06a7, 0xc19bf174,
		0xe49b69c1, 0xefbe4786, 0x0fc19dc6, 0x240ca1cc,
		0x2de92c6f, 0x4a7484aa, 0x5cb0a9dc, 0x76f988da,
		0x983e5152, 0xa831c66d, 0xb00327c8, 0xbf597fc7,
		0xc6e00bf3, 0xd5a79147, 0x06ca6351, 0x14292967,
		0x27b70a85, 0x2e1b2138, 0x4d2c6dfc, 0x53380d13,
		0x650a7354, 0x766a0abb, 0x81c2c92e, 0x92722c85,
		0xa2bfe8a1, 0xa81a664b, 0xc24b8b70, 0xc76c51a3,
		0xd192e819, 0xd6990624, 0xf40e3585, 0x106aa070,
		0x19a4c116, 0x1e376c08, 0x2748774c, 0x34b0bcb5,
		0x391c0cb3, 0x4ed8aa4a, 0x5b9cca4f, 0x682e6ff3,
		0x748f82ee, 0x78a5636f, 0x84c87814, 0x8cc70208,
		0x90befffa, 0xa4506ceb, 0xbef9a3f7, 0xc67178f2,
	}
}

// makeRounds: the first 32 bits behind the point of the cube roots of the first 64 primes.
func makeRounds() [64]uint32 {
	var made [64]uint32
	for p, n := uint64(2), 0; n < len(made); p++ {
		if prime(p) {
			made[n] = uint32(cubeRoot(p))
			n++
		}
	}
	return made
}

func prime(n uint64) bool {
	for d := uint64(2); d*d <= n; d++ {
		if n%d == 0 {
			return false
		}
	}
	return true
}

// cubeRoot: the cube root of a prime below 512, times 2^32, cut to a whole number.
func cubeRoot(p uint64) uint64 {
	root := uint64(0)
	for bit := uint64(1) << 34; bit > 0; bit >>= 1 {
		if below(root|bit, p) {
			root |= bit
		}
	}
	return root
}

// below: whether x / 2^32 is below the cube root of p. The cube of x (which is below 2^35) has more than 64 bits; p times 2^96 is p<<32 in the upper ones, and 0 in the lower.
func below(x, p uint64) bool {
	high, low := bits.Mul64(x, x)
	carry, _ := bits.Mul64(low, x)
	return high*x+carry < p<<32
}
