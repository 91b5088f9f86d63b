// Package tape keeps chance that was written down ahead, and gives each byte of it once: see shared/doc/04-tape.md.
package tape

import (
	"strings"
	"sync/atomic"

	"vidimus/api"
)

const (
	drawn    = 8       // bytes of a number that is drawn
	mostDraw = 1 << 31 // below which one may be drawn
)

// Tape: bytes, and how many of them were taken.
type Tape struct {
	text  string
	taken atomic.Int64
}

// New: a tape of these bytes, of which none were taken.
func New(s string) *Tape {
	return &Tape{text: strings.Clone(s)}
}

// Take: the next n bytes.
func (t *Tape) Take(n int) (string, api.Errno) {
	if t == nil {
		return "", api.ErrEntropy
	}
	if n < 0 {
		return "", api.ErrArg
	}
	return t.next(int64(n))
}

// Below: the next 8 bytes as a number, modulo m.
func (t *Tape) Below(m int) (int, api.Errno) {
	if t == nil {
		return 0, api.ErrEntropy
	}
	if m < 1 || int64(m) > mostDraw {
		return 0, api.ErrArg
	}
	s, err := t.next(drawn)
	if err != api.OK {
		return 0, err
	}
	return int(number(s) % uint64(m)), api.OK
}

// Left: how many bytes there are still.
func (t *Tape) Left() int {
	if t == nil {
		return 0
	}
	return len(t.text) - t.Taken()
}

// Taken: how many bytes were taken.
func (t *Tape) Taken() int {
	if t == nil {
		return 0
	}
	return int(t.taken.Load())
}

// next: the next n bytes, n not being below 0.
// The count goes on only from where it was held against what is left: a count that went too far and then back would refuse others meanwhile. It fails to go on only if others took bytes, so that this ends with the tape.
func (t *Tape) next(n int64) (string, api.Errno) {
	for {
		at := t.taken.Load()
		if n > int64(len(t.text))-at {
			return "", api.ErrEntropy
		}
		if t.taken.CompareAndSwap(at, at+n) {
			return strings.Clone(t.text[at : at+n]), api.OK
		}
	}
}

// number: these bytes as a number, the highest first.
func number(s string) uint64 {
	n := uint64(0)
	for i := range len(s) {
		n = n<<8 | uint64(s[i])
	}
	return n
}
