// Package cipher: see shared/doc/15-cipher.md.
package cipher

import (
	"vidimus/api"
	"vidimus/tape"
)

// Keys: its fields are yours to choose.
type Keys struct{}

// Cipher knows where things stand, and hides what they are.
type Cipher interface {
	Catalog(table string) (string, api.Errno)
	Row(table string, key api.Val) (string, api.Errno)
	Rows(table string) (api.Prefix, api.Errno)
	Entry(table, col string, v, key api.Val) (string, api.Errno)
	Entries(table, col string, v api.Val) (api.Prefix, api.Errno)
	Seal(place, text string) (string, api.Errno)
	Open(place, cell string) (string, bool)
}

func New(master string, t *tape.Tape) (r0 *Keys)                                   { return }
func (k *Keys) Catalog(table string) (r0 string, r1 api.Errno)                     { return }
func (k *Keys) Row(table string, key api.Val) (r0 string, r1 api.Errno)            { return }
func (k *Keys) Rows(table string) (r0 api.Prefix, r1 api.Errno)                    { return }
func (k *Keys) Entry(table, col string, v, key api.Val) (r0 string, r1 api.Errno)  { return }
func (k *Keys) Entries(table, col string, v api.Val) (r0 api.Prefix, r1 api.Errno) { return }
func (k *Keys) Seal(place, text string) (r0 string, r1 api.Errno)                  { return }
func (k *Keys) Open(place, cell string) (r0 string, r1 bool)                       { return }
func Bucket(n int) (r0 int)                                                        { return }
func Value(v api.Val) (r0 api.Node, r1 bool)                                       { return }
func Of(n api.Node) (r0 api.Val, r1 bool)                                          { return }
