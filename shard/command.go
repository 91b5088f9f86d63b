package shard

import (
	"vidimus/api"
	"vidimus/codec"
	"vidimus/header"
)

// What a command asks for.
const (
	looks = 0
	swaps = 1
)

// Where a command's fields stand in its list: first those of all commands, then a look's, and a swap's.
const (
	whatAt = iota
	clientAt
	serialAt
	ownAt

	seqAt   = ownAt
	keysAt  = ownAt + 1
	underAt = ownAt + 2

	hashAt    = ownAt
	nextAt    = ownAt + 1
	putsAt    = ownAt + 2
	deletesAt = ownAt + 3
)

// command: of a client, by a serial.
type command struct {
	client, serial uint64
	asked          deed
}

// deed: what a command asks for. It is done, and answered to that serial.
type deed interface {
	do(s *Shard, serial uint64) string
}

// look: for the headers behind a number, and for what is shown for keys and prefixes.
type look struct {
	seq   uint64
	keys  []string
	under []api.Prefix
}

// swap: of the last header, of that hash, for the next one, with puts and deletes.
type swap struct {
	hash    string
	next    api.Signed
	puts    []api.Pair
	deletes []string
}

// Look: the bytes of a look; "", if they would be too many.
func Look(client, serial, seq uint64, keys []string, under []api.Prefix) string {
	if !fit(len(keys), keyLen) || !fit(len(under), prefixLen) {
		return ""
	}
	return written(
		codec.N(looks), codec.N(client), codec.N(serial),
		codec.N(seq), listOf(keys, codec.S), listOf(under, prefixNode),
	)
}

// Swap: the bytes of a swap; "", if they would be too many, or next is no header.
func Swap(client, serial uint64, hash string, next api.Signed, puts []api.Pair, deletes []string) string {
	if !fit(len(puts), pairLen) || !fit(len(deletes), keyLen) {
		return ""
	}
	n := header.Node(next)
	if n.Kind != api.List {
		return ""
	}
	return written(
		codec.N(swaps), codec.N(client), codec.N(serial),
		codec.S(hash), n, listOf(puts, pairNode), listOf(deletes, codec.S),
	)
}

// readCommand: the command whose bytes s are, and whether there is one.
func readCommand(s string) (command, bool) {
	n, ok := codec.Read(s)
	if !ok || len(n.Kids) == 0 {
		return command{}, false
	}
	asked, ok := deedOf(n)
	if !ok {
		return command{}, false
	}
	return command{client: n.Kids[clientAt].N, serial: n.Kids[serialAt].N, asked: asked}, true
}

// deedOf: what a command asks for, and whether n is one.
func deedOf(n api.Node) (deed, bool) {
	switch n.Kids[whatAt].N {
	case looks:
		return lookOf(n)
	case swaps:
		return swapOf(n)
	}
	return nil, false
}

// lookOf: what a look's command asks for, and whether n is one, whatever its What.
func lookOf(n api.Node) (look, bool) {
	if !shaped(n, api.Num, api.Num, api.Num, api.Num, api.List, api.List) {
		return look{}, false
	}
	keys, all := read(n.Kids[keysAt], textOf)
	under, right := read(n.Kids[underAt], prefixOf)
	return look{seq: n.Kids[seqAt].N, keys: keys, under: under}, all && right
}

// swapOf: what a swap's command asks for, and whether n is one, whatever its What.
func swapOf(n api.Node) (swap, bool) {
	if !shaped(n, api.Num, api.Num, api.Num, api.Str, api.List, api.List, api.List) {
		return swap{}, false
	}
	next, signed := header.Of(n.Kids[nextAt])
	puts, all := read(n.Kids[putsAt], pairOf)
	deletes, right := read(n.Kids[deletesAt], textOf)
	return swap{hash: n.Kids[hashAt].S, next: next, puts: puts, deletes: deletes}, signed && all && right
}
