package shard

import (
	"cmp"
	"maps"
	"slices"

	"vidimus/api"
	"vidimus/codec"
	"vidimus/header"
	"vidimus/trie"
)

// Where a state's fields stand in its list, the shard's number being the first one.
const (
	chainAt  = 1
	pairsAt  = 2
	toldAt   = 3
	answerAt = 2 // of a client's list: behind its number and its serial
)

// State: its state; "", if that would have too many bytes.
func (s *Shard) State() string {
	if s == nil || !fit(len(s.chain), signedLen) || !fit(s.pairs.Len(), pairLen) || !fit(len(s.clients), clientLen) {
		return ""
	}
	clients := slices.SortedFunc(maps.Values(s.clients), func(a, b client) int { return cmp.Compare(a.number, b.number) })
	return written(
		codec.N(s.number), listOf(s.chain, header.Node), listOf(s.pairs.All(), pairNode), listOf(clients, clientNode),
	)
}

// Restore: it is as that state says; whether it is one of a shard of its number.
func (s *Shard) Restore(state string) bool {
	if s == nil {
		return false
	}
	next, ok := readState(state)
	if !ok || next.number != s.number {
		return false
	}
	*s = next
	return true
}

// readState: the shard that has that state, and whether there is one.
func readState(state string) (Shard, bool) {
	n, ok := codec.Read(state)
	if !ok || !shaped(n, api.Num, api.List, api.List, api.List) {
		return Shard{}, false
	}
	chain, signed := read(n.Kids[chainAt], header.Of)
	puts, paired := read(n.Kids[pairsAt], pairOf)
	clients, told := read(n.Kids[toldAt], clientOf)
	if !signed || !paired || !told || len(chain) == 0 || !keysOf(puts, nil) {
		return Shard{}, false
	}
	if !rising(puts, func(p api.Pair) string { return p.Key }) || !rising(clients, func(c client) uint64 { return c.number }) {
		return Shard{}, false
	}
	s := Shard{number: n.Kids[0].N, chain: chain, pairs: changed(trie.New(), puts, nil)}
	for _, c := range clients {
		s.remember(c)
	}
	return s, true
}

// rising: whether the key of each of them is above that of the one ahead.
func rising[T any, K cmp.Ordered](l []T, key func(T) K) bool {
	for i := 1; i < len(l); i++ {
		if key(l[i-1]) >= key(l[i]) {
			return false
		}
	}
	return true
}

// clientNode: a client as a node.
func clientNode(c client) api.Node {
	return list(codec.N(c.number), codec.N(c.serial), codec.S(c.answer))
}

// clientOf: the client that n stands for, and whether it stands for one: what it was answered is an answer to its serial.
func clientOf(n api.Node) (client, bool) {
	if !shaped(n, api.Num, api.Num, api.Str) {
		return client{}, false
	}
	c := client{number: n.Kids[0].N, serial: n.Kids[1].N, answer: n.Kids[answerAt].S}
	a, ok := Answer(c.answer)
	return c, ok && a.Serial == c.serial
}
