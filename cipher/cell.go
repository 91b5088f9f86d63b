package cipher

import (
	"strings"

	"vidimus/aes"
	"vidimus/api"
	"vidimus/codec"
	"vidimus/sha"
)

const (
	leastBucket = 32
	sizeLen     = 4  // bytes of a text's length
	keyLen      = 16 // of the key that texts are under
	numberLen   = 16 // of a cell's number
	sealLen     = 16 // of a cell's seal
)

// Seal: the cell of the text at the place.
func (k *Keys) Seal(place, text string) (string, api.Errno) {
	if k == nil {
		return "", api.ErrArg
	}
	if len(text) > api.MaxCell {
		return "", api.ErrLong
	}
	number, err := k.tape.Take(numberLen)
	if err != api.OK {
		return "", err
	}
	sealed := number + k.hidden(number, filled(text))
	return sealed + k.seal(place, sealed), api.OK
}

// Open: the text of which that is the cell at the place, and whether there is one.
func (k *Keys) Open(place, cell string) (string, bool) {
	bucket := len(cell) - numberLen - sealLen
	if k == nil || bucket < leastBucket || bucket > Bucket(api.MaxCell) {
		return "", false
	}
	sealed := cell[:numberLen+bucket]
	if cell[len(sealed):] != k.seal(place, sealed) {
		return "", false
	}
	return unfilled(k.hidden(sealed[:numberLen], sealed[numberLen:]))
}

// Bucket: how many bytes a text of n bytes is filled up to, with its length; 0, if there is no such text.
func Bucket(n int) int {
	if n < 0 || n > api.MaxCell {
		return 0
	}
	bucket := leastBucket
	for bucket < sizeLen+n {
		bucket *= 2
	}
	return bucket
}

// hidden: the bytes under the cells' key and the number; once more, the bytes themselves.
func (k *Keys) hidden(number, s string) string {
	key, _ := k.token(keyLen, codec.S("cell"))
	out, _ := aes.Stream(key, number, s)
	return out
}

// seal: the seal of a cell, whose number and hidden bytes are sealed, at the place.
func (k *Keys) seal(place, sealed string) string {
	key, _ := k.token(api.HashLen, codec.S("seal"))
	return sha.Mac(key, place+sealed)[:sealLen]
}

// filled: the length of a text that isn't too long, the text, and bytes 0 up to its bucket.
func filled(text string) string {
	n := len(text)
	size := string([]byte{byte(n >> 24), byte(n >> 16), byte(n >> 8), byte(n)})
	return size + text + strings.Repeat("\x00", Bucket(n)-sizeLen-n)
}

// unfilled: the text of which s is the filled one, and whether there is one; s has a bucket's bytes at least.
func unfilled(s string) (string, bool) {
	n := int(s[0])<<24 | int(s[1])<<16 | int(s[2])<<8 | int(s[3])
	if Bucket(n) != len(s) {
		return "", false
	}
	text := s[sizeLen : sizeLen+n]
	// whoever has the master may have sealed anything
	if filled(text) != s {
		return "", false
	}
	return text, true
}
