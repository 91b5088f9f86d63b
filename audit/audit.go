// Package audit: see shared/doc/26-audit.md.
package audit

import (
	"vidimus/api"
	"vidimus/cipher"
	"vidimus/trie"
)

func Look(t *trie.Trie, c cipher.Cipher, names []string) (r0 api.Report, r1 api.Errno)        { return }
func Sound(r api.Report) (r0 bool)                                                            { return }
func Rows(t *trie.Trie, c cipher.Cipher, name string) (r0 api.Table, r1 [][]api.Val, r2 bool) { return }
