// Package cipher knows where things of tables stand in maps, and hides what they are: see shared/doc/15-cipher.md.
package cipher

import (
	"strings"

	"vidimus/api"
	"vidimus/codec"
	"vidimus/sha"
	"vidimus/tape"
)

// How many bytes the places of all rows of a table begin with, and those of all entries of a value.
const (
	rowsLen    = 8
	entriesLen = 16
)

// Cipher knows where things stand, and hides what they are.
type Cipher interface {
	Catalog(table string) (string, api.Errno)
	Row(table string, key api.Val) (string, api.Errno)
	Rows(table string) (api.Prefix, api.Errno)
	Entry(table, col string, v, key api.Val) (string, api.Errno)
	Entries(table, col string, v api.Val) (api.Prefix, api.Errno)
	Seal(place, text string) (string, api.Errno)
	Open(place, cell string) (string, bool)
}

// Keys: the cipher of a master; the numbers of its cells are taken from the tape.
type Keys struct {
	master string
	tape   *tape.Tape
}

// New: the cipher of that master, and a tape.
func New(master string, t *tape.Tape) *Keys {
	return &Keys{master: master, tape: t}
}

// Catalog: where the table's definition stands.
func (k *Keys) Catalog(table string) (string, api.Errno) {
	place, ok := k.token(api.HashLen, codec.S("catalog"), codec.S(table))
	if !ok {
		return "", api.ErrArg
	}
	return place, api.OK
}

// Row: where the table's row with that key stands.
func (k *Keys) Row(table string, key api.Val) (string, api.Errno) {
	rows, ok := k.rows(table)
	row, ok2 := k.row(api.HashLen-rowsLen, table, key)
	if !ok || !ok2 {
		return "", api.ErrArg
	}
	return rows + row, api.OK
}

// Rows: what all of the table's rows stand under.
func (k *Keys) Rows(table string) (api.Prefix, api.Errno) {
	return prefix(k.rows(table))
}

// Entry: where the entry for the column's value v in the row with that key stands.
func (k *Keys) Entry(table, col string, v, key api.Val) (string, api.Errno) {
	entries, ok := k.entries(table, col, v)
	row, ok2 := k.row(api.HashLen-entriesLen, table, key)
	if !ok || !ok2 {
		return "", api.ErrArg
	}
	return entries + row, api.OK
}

// Entries: what all entries for the column's value v stand under.
func (k *Keys) Entries(table, col string, v api.Val) (api.Prefix, api.Errno) {
	return prefix(k.entries(table, col, v))
}

// rows: what the places of all of the table's rows begin with.
func (k *Keys) rows(table string) (string, bool) {
	return k.token(rowsLen, codec.S("rows"), codec.S(table))
}

// entries: what the places of all entries for the column's value v begin with.
func (k *Keys) entries(table, col string, v api.Val) (string, bool) {
	n, ok := Value(v)
	if !ok {
		return "", false
	}
	return k.token(entriesLen, codec.S("entry"), codec.S(table), codec.S(col), n)
}

// row: what tells the row with that key from the others of the table, in so many bytes.
func (k *Keys) row(count int, table string, key api.Val) (string, bool) {
	n, ok := Value(key)
	if !ok {
		return "", false
	}
	return k.token(count, codec.S("row"), codec.S(table), n)
}

// token: the first bytes of the token of the list of these, so many, and whether there is one: a list that is too long has no bytes.
func (k *Keys) token(count int, kids ...api.Node) (string, bool) {
	if k == nil {
		return "", false
	}
	s, ok := codec.Write(codec.L(kids...))
	if !ok {
		return "", false
	}
	return sha.Mac(k.master, s)[:count], true
}

// prefix: that of the keys that begin with these bytes, if there are such.
func prefix(begin string, ok bool) (api.Prefix, api.Errno) {
	if !ok {
		return api.Prefix{}, api.ErrArg
	}
	key := begin + strings.Repeat("\x00", api.HashLen-len(begin))
	return api.Prefix{Key: key, Bits: 8 * len(begin)}, api.OK
}
