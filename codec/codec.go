// Package codec makes bytes of numbers, texts and lists of these, in one way only: see shared/doc/03-codec.md.
package codec

import (
	"math/bits"
	"slices"
	"strings"

	"vidimus/api"
)

// The letters that nodes' bytes begin with.
const (
	numLetter  = 'n'
	strLetter  = 's'
	listLetter = 'l'
)

const (
	more      = 128     // in a byte of a size: another one follows
	sizeLen   = 4       // bytes of the size MaxBytes; what has a greater one doesn't fit a record
	numLen    = 8       // bytes of the greatest number
	mostNests = 1 << 16 // of what is nested deeper the document promises nothing
)

// list: which kids these are. Many nodes may have the same ones, and to walk through them for each may take for ever.
type list struct {
	first *api.Node
	count int
}

// levels: of lists that were walked through: how far down they stood, at most.
type levels map[list]int

// pairs: of lists that were walked through side by side.
type pairs map[[2]list]struct{}

// Right: whether n is a right node.
func Right(n api.Node) bool {
	return levels{}.right(n, 1)
}

// Write: the bytes of n, and whether there are any such.
func Write(n api.Node) (string, bool) {
	out, ok := written(nil, n, 1)
	return string(out), ok
}

// Read: the node whose bytes are all of s, and whether there is one.
func Read(s string) (api.Node, bool) {
	if len(s) > api.MaxBytes {
		return api.Node{}, false
	}
	n, rest, ok := first(s, 1)
	if !ok || rest != "" {
		return api.Node{}, false
	}
	return n, true
}

// Same: whether a and b have the same kinds, numbers, texts and kids.
func Same(a, b api.Node) bool {
	return pairs{}.same(a, b)
}

// N: a number.
func N(n uint64) api.Node {
	return api.Node{Kind: api.Num, N: n}
}

// S: a text.
func S(s string) api.Node {
	return api.Node{Kind: api.Str, S: s}
}

// L: a list of these kids.
func L(kids ...api.Node) api.Node {
	// What has no end has no copy down to its end either.
	if !ends(kids, 1) {
		return api.Node{Kind: api.List, Kids: slices.Clone(kids)}
	}
	return api.Node{Kind: api.List, Kids: copied(kids)}
}

// place: of kids of which there are some.
func place(kids []api.Node) list {
	return list{first: &kids[0], count: len(kids)}
}

// plain: whether n is of a kind that there is, and the other kinds' fields have nothing in them.
func plain(n api.Node) bool {
	switch n.Kind {
	case api.Num:
		return n.S == "" && len(n.Kids) == 0
	case api.Str:
		return n.N == 0 && len(n.Kids) == 0
	case api.List:
		return n.N == 0 && n.S == ""
	}
	return false
}

// right: whether n is right where it stands, at that level of a node.
func (l levels) right(n api.Node, level int) bool {
	if level > api.MaxDeep || !plain(n) {
		return false
	}
	if len(n.Kids) == 0 || l[place(n.Kids)] >= level {
		return true
	}
	l[place(n.Kids)] = level
	for _, kid := range n.Kids {
		if !l.right(kid, level+1) {
			return false
		}
	}
	return true
}

// same: whether a and b are the same, if all pairs of lists that were walked through are.
func (p pairs) same(a, b api.Node) bool {
	if a.Kind != b.Kind || a.N != b.N || a.S != b.S || len(a.Kids) != len(b.Kids) {
		return false
	}
	if len(a.Kids) == 0 {
		return true
	}
	at := [2]list{place(a.Kids), place(b.Kids)}
	if _, ok := p[at]; ok {
		return true
	}
	p[at] = struct{}{}
	for i := range a.Kids {
		if !p.same(a.Kids[i], b.Kids[i]) {
			return false
		}
	}
	return true
}

// ends: whether kids, at that level of nests, go down to mostNests at most. Those of a list within itself go down for ever.
func ends(kids []api.Node, level int) bool {
	for i := range kids {
		if len(kids[i].Kids) > 0 && (level == mostNests || !ends(kids[i].Kids, level+1)) {
			return false
		}
	}
	return true
}

// copied: kids like these, in memory of their own down to the last ones.
func copied(kids []api.Node) []api.Node {
	if len(kids) == 0 {
		return nil
	}
	out := slices.Clone(kids)
	for i := range out {
		out[i].Kids = copied(out[i].Kids)
	}
	return out
}

// written: out, and behind it the bytes of n, which stands at that level; nil and false, if it isn't right there, or they would be too many for a record.
func written(out []byte, n api.Node, level int) ([]byte, bool) {
	if level > api.MaxDeep || !plain(n) || len(n.S) > api.MaxBytes {
		return nil, false
	}
	switch n.Kind {
	case api.Num:
		out = withNumber(out, n.N)
	case api.Str:
		out = append(withSize(append(out, strLetter), len(n.S)), n.S...)
	case api.List:
		out = withSize(append(out, listLetter), len(n.Kids))
	}
	// A list ends as soon as a kid doesn't fit, so that one of many kids doesn't take for ever.
	ok := len(out) <= api.MaxBytes
	for i := 0; ok && i < len(n.Kids); i++ {
		out, ok = written(out, n.Kids[i], level+1)
	}
	if !ok {
		return nil, false
	}
	return out, true
}

// withNumber: out, and behind it the bytes of a number.
func withNumber(out []byte, n uint64) []byte {
	count := (bits.Len64(n) + 7) / 8
	out = withSize(append(out, numLetter), count)
	for i := count - 1; i >= 0; i-- {
		out = append(out, byte(n>>(8*i)))
	}
	return out
}

// withSize: out, and behind it the bytes of a size.
func withSize(out []byte, size int) []byte {
	for ; size >= more; size /= more {
		out = append(out, byte(size%more+more))
	}
	return append(out, byte(size))
}

// first: the node at that level with whose bytes s begins, what is behind them, and whether there is one.
func first(s string, level int) (api.Node, string, bool) {
	if s == "" || level > api.MaxDeep {
		return api.Node{}, "", false
	}
	size, rest, ok := firstSize(s[1:])
	if !ok {
		return api.Node{}, "", false
	}
	switch s[0] {
	case numLetter:
		return firstNumber(rest, size)
	case strLetter:
		return firstText(rest, size)
	case listLetter:
		return firstKids(rest, size, level)
	}
	return api.Node{}, "", false
}

// firstSize: the size with whose bytes s begins, what is behind them, and whether there is one that fits a record.
func firstSize(s string) (int, string, bool) {
	size := 0
	for i := range min(sizeLen, len(s)) {
		size += int(s[i]%more) << (7 * i)
		if s[i] < more {
			return size, s[i+1:], s[i] > 0 || i == 0
		}
	}
	return 0, "", false
}

// firstNumber: the number that the first bytes of s are, so many.
func firstNumber(s string, count int) (api.Node, string, bool) {
	if count > numLen || count > len(s) || count > 0 && s[0] == 0 {
		return api.Node{}, "", false
	}
	n := uint64(0)
	for i := range count {
		n = n<<8 | uint64(s[i])
	}
	return N(n), s[count:], true
}

// firstText: the text that the first bytes of s are, so many. It is a copy, so that whoever keeps it doesn't keep the record with it.
func firstText(s string, count int) (api.Node, string, bool) {
	if count > len(s) {
		return api.Node{}, "", false
	}
	return S(strings.Clone(s[:count])), s[count:], true
}

// firstKids: the list at that level of the nodes with whose bytes s begins, so many. It grows by what there is: a size alone may say anything.
func firstKids(s string, count, level int) (api.Node, string, bool) {
	n := api.Node{Kind: api.List}
	for range count {
		kid, rest, ok := first(s, level+1)
		if !ok {
			return api.Node{}, "", false
		}
		n.Kids, s = append(n.Kids, kid), rest
	}
	return n, s, true
}
