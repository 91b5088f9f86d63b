// Package aes puts blocks under a key, and texts under a key and a number: see shared/doc/02-aes.md.
package aes

import (
	"math/bits"
	"sync"

	"vidimus/api"
)

const (
	blockLen = 16
	columns  = 4
	last     = 10 // the last round
	fold     = 27 // what x^8 is in the field: x^4 + x^3 + x + 1
	shift    = 99 // what the box adds to each byte
)

// The box of all bytes as the field makes it, too dear to be worked out more than once.
var (
	boxOnce sync.Once
	boxMade [256]byte
)

// schedule: what a key makes of blocks: the box of all bytes, and the key's words, one for each column of each round.
type schedule struct {
	box   [256]byte
	words [columns * (last + 1)][columns]byte
}

// Box: the box of b.
func Box(b byte) byte {
	return boxBytes()[b]
}

// Block: the block under the key; both have 16 bytes.
func Block(key, block string) (string, api.Errno) {
	if len(key) != blockLen || len(block) != blockLen {
		return "", api.ErrArg
	}
	k := scheduled(key)
	out := k.under(blockOf(block))
	return string(out[:]), api.OK
}

// Stream: the text s under the key and the number, which have 16 bytes each.
func Stream(key, number, s string) (string, api.Errno) {
	if len(key) != blockLen || len(number) != blockLen {
		return "", api.ErrArg
	}
	k, count := scheduled(key), blockOf(number)
	out := []byte(s)
	for i := 0; i < len(out); i += blockLen {
		stream := k.under(count)
		for j := range min(blockLen, len(out)-i) {
			out[i+j] ^= stream[j]
		}
		raise(&count)
	}
	return string(out), api.OK
}

// Boxes: the box of all bytes, made when it is first asked for.
func Boxes() [256]byte {
	boxOnce.Do(func() { boxMade = makeBox() })
	return boxMade
}

// blockOf: the bytes of a text that has 16 of them.
func blockOf(s string) [blockLen]byte {
	var out [blockLen]byte
	copy(out[:], s)
	return out
}

// raise: the number becomes one more, modulo 2^128; its highest byte stands first.
func raise(number *[blockLen]byte) {
	for i := blockLen - 1; i >= 0; i-- {
		number[i]++
		if number[i] != 0 {
			return
		}
	}
}

// scheduled: the box, and the words that come of the key.
func scheduled(key string) schedule {
	k := schedule{box: boxBytes()}
	for i := range columns {
		copy(k.words[i][:], key[columns*i:])
	}
	power := byte(1)
	for i := columns; i < len(k.words); i++ {
		w := k.words[i-1]
		if i%columns == 0 {
			w = [columns]byte{k.box[w[1]] ^ power, k.box[w[2]], k.box[w[3]], k.box[w[0]]}
			power = double(power)
		}
		for j := range w {
			k.words[i][j] = k.words[i-columns][j] ^ w[j]
		}
	}
	return k
}

// under: the block under the key.
func (k *schedule) under(block [blockLen]byte) [blockLen]byte {
	k.add(&block, 0)
	for round := 1; round < last; round++ {
		block = k.turned(block)
		mix(&block)
		k.add(&block, round)
	}
	block = k.turned(block)
	k.add(&block, last)
	return block
}

// add: the round's words are xor'd into the block.
func (k *schedule) add(block *[blockLen]byte, round int) {
	for i := range blockLen {
		block[i] ^= k.words[columns*round+i/columns][i%columns]
	}
}

// turned: the block's bytes through the box, the row r turned by r columns to the left.
func (k *schedule) turned(block [blockLen]byte) [blockLen]byte {
	var out [blockLen]byte
	for i := range out {
		row := i % columns
		out[i] = k.box[block[(i+columns*row)%blockLen]]
	}
	return out
}

// mix: each column (a, b, c, d) becomes (2a+3b+c+d, a+2b+3c+d, a+b+2c+3d, 3a+b+c+2d), where 2a+3b+c+d is a + (a+b+c+d) + 2(a+b), and so on.
func mix(block *[blockLen]byte) {
	for i := 0; i < blockLen; i += columns {
		a, b, c, d := block[i], block[i+1], block[i+2], block[i+3]
		all := a ^ b ^ c ^ d
		block[i] = a ^ all ^ double(a^b)
		block[i+1] = b ^ all ^ double(b^c)
		block[i+2] = c ^ all ^ double(c^d)
		block[i+3] = d ^ all ^ double(d^a)
	}
}

// double: 2b in the field.
func double(b byte) byte {
	return b<<1 ^ (b>>7)*fold
}

// times: the product of a and b in the field.
func times(a, b byte) byte {
	product := byte(0)
	for ; b > 0; b >>= 1 {
		product ^= (b & 1) * a
		a = double(a)
	}
	return product
}

// inverse: of b in the field, 0 of 0: the 254th power of b, as the 255th is 1.
func inverse(b byte) byte {
	power := byte(1)
	for range 7 {
		b = times(b, b)
		power = times(power, b)
	}
	return power
}

// makeBox: the box of all bytes, worked out in the field.
func makeBox() [256]byte {
	var made [256]byte
	for b := range made {
		c := inverse(byte(b))
		made[b] = c ^ shift
		for i := 4; i < 8; i++ {
			made[b] ^= bits.RotateLeft8(c, -i)
		}
	}
	return made
}

// boxBytes: the box of all bytes, written out, so that what is under a key hangs on nothing that is kept; Boxes vouches for it.
func boxBytes() [256]byte {
	return [256]byte{
		0x63, 0x7c, 0x77, 0x7b, 0xf2, 0x6b, 0x6f, 0xc5, 0x30, 0x01, 0x67, 0x2b, 0xfe, 0xd7, 0xab, 0x76,
		0xca, 0x82, 0xc9, 0x7d, 0xfa, 0x59, 0x47, 0xf0, 0xad, 0xd4, 0xa2, 0xaf, 0x9c, 0xa4, 0x72, 0xc0,
		0xb7, 0xfd, 0x93, 0x26, 0x36, 0x3f, 0xf7, 0xcc, 0x34, 0xa5, 0xe5, 0xf1, 0x71, 0xd8, 0x31, 0x15,
		0x04, 0xc7, 0x23, 0xc3, 0x18, 0x96, 0x05, 0x9a, 0x07, 0x12, 0x80, 0xe2, 0xeb, 0x27, 0xb2, 0x75,
		0x09, 0x83, 0x2c, 0x1a, 0x1b, 0x6e, 0x5a, 0xa0, 0x52, 0x3b, 0xd6, 0xb3, 0x29, 0xe3, 0x2f, 0x84,
		0x53, 0xd1, 0x00, 0xed, 0x20, 0xfc, 0xb1, 0x5b, 0x6a, 0xcb, 0xbe, 0x39, 0x4a, 0x4c, 0x58, 0xcf,
		0xd0, 0xef, 0xaa, 0xfb, 0x43, 0x4d, 0x33, 0x85, 0x45, 0xf9, 0x02, 0x7f, 0x50, 0x3c, 0x9f, 0xa8,
		0x51, 0xa3, 0x40, 0x8f, 0x92, 0x9d, 0x38, 0xf5, 0xbc, 0xb6, 0xda, 0x21, 0x10, 0xff, 0xf3, 0xd2,
		0xcd, 0x0c, 0x13, 0xec, 0x5f, 0x97, 0x44, 0x17, 0xc4, 0xa7, 0x7e, 0x3d, 0x64, 0x5d, 0x19, 0x73,
		0x60, 0x81, 0x4f, 0xdc, 0x22, 0x2a, 0x90, 0x88, 0x46, 0xee, 0xb8, 0x14, 0xde, 0x5e, 0x0b, 0xdb,
		0xe0, 0x32, 0x3a, 0x0a, 0x49, 0x06, 0x24, 0x5c, 0xc2, 0xd3, 0xac, 0x62, 0x91, 0x95, 0xe4, 0x79,
		0xe7, 0xc8, 0x37, 0x6d, 0x8d, 0xd5, 0x4e, 0xa9, 0x6c, 0x56, 0xf4, 0xea, 0x65, 0x7a, 0xae, 0x08,
		0xba, 0x78, 0x25, 0x2e, 0x1c, 0xa6, 0xb4, 0xc6, 0xe8, 0xdd, 0x74, 0x1f, 0x4b, 0xbd, 0x8b, 0x8a,
		0x70, 0x3e, 0xb5, 0x66, 0x48, 0x03, 0xf6, 0x0e, 0x61, 0x35, 0x57, 0xb9, 0x86, 0xc1, 0x1d, 0x9e,
		0xe1, 0xf8, 0x98, 0x11, 0x69, 0xd9, 0x8e, 0x94, 0x9b, 0x1e, 0x87, 0xe9, 0xce, 0x55, 0x28, 0xdf,
		0x8c, 0xa1, 0x89, 0x0d, 0xbf, 0xe6, 0x42, 0x68, 0x41, 0x99, 0x2d, 0x0f, 0xb0, 0x54, 0xbb, 0x16,
	}
}
