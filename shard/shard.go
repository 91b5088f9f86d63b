// Package shard is a machine that keeps a map, the chain of its roots, and shows parts of it: see shared/doc/13-shard.md.
package shard

import (
	"slices"

	"vidimus/api"
	"vidimus/header"
	"vidimus/part"
	"vidimus/trie"
)

// Shard: its number, its headers, its map, and what each client was answered last, by the clients' numbers.
type Shard struct {
	number  uint64
	chain   []api.Signed
	pairs   *trie.Trie
	clients map[uint64]client
}

// client: its number, the serial of its last command, and what that was answered.
type client struct {
	number uint64
	serial uint64
	answer string
}

// New: a shard whose chain is first alone.
func New(number uint64, first api.Signed) *Shard {
	return &Shard{number: number, chain: []api.Signed{first}, pairs: trie.New()}
}

// Apply: the answer to a command, which is done, if it is one that wasn't done yet.
func (s *Shard) Apply(cmd string) string {
	if s == nil {
		return ""
	}
	c, ok := readCommand(cmd)
	if !ok {
		return short(0, api.Bad)
	}
	last, known := s.clients[c.client]
	switch {
	case known && c.serial == last.serial:
		return last.answer
	case known && c.serial < last.serial:
		return short(c.serial, api.Old)
	}
	answer := c.asked.do(s, c.serial)
	s.remember(client{number: c.client, serial: c.serial, answer: answer})
	return answer
}

// Chain: its headers.
func (s *Shard) Chain() []api.Signed {
	if s == nil {
		return nil
	}
	return slices.Clone(s.chain)
}

// Map: its map.
func (s *Shard) Map() *trie.Trie {
	if s == nil || s.pairs == nil {
		return nil
	}
	// whoever asks may write over what it was handed
	own := *s.pairs
	return &own
}

// do: the headers behind a number, and what is shown of the map.
func (l look) do(s *Shard, serial uint64) string {
	if l.seq > s.last().Seq {
		return short(serial, api.Ahead)
	}
	text, ok := part.Show(s.pairs, l.keys, l.under)
	if !ok {
		return short(serial, api.Bad)
	}
	return seen(serial, s.behind(l.seq), text)
}

// do: another map, and the header of its root.
func (w swap) do(s *Shard, serial uint64) string {
	last, next := s.last(), w.next.Header
	switch {
	case w.hash != header.Hash(last):
		return short(serial, api.Other)
	case !header.Follows(last, next) || !keysOf(w.puts, w.deletes):
		return short(serial, api.Bad)
	}
	pairs := changed(s.pairs, w.puts, w.deletes)
	if pairs.Root() != next.Root {
		return short(serial, api.Bad)
	}
	s.chain, s.pairs = append(s.chain, w.next), pairs
	return short(serial, api.Done)
}

// last: the last header; the zero Header of a shard that nobody made.
func (s *Shard) last() api.Header {
	if len(s.chain) == 0 {
		return api.Header{}
	}
	return s.chain[len(s.chain)-1].Header
}

// behind: the headers of greater numbers. Of a restored shard these needn't rise.
func (s *Shard) behind(seq uint64) []api.Signed {
	var out []api.Signed
	for _, x := range s.chain {
		if x.Header.Seq > seq {
			out = append(out, x)
		}
	}
	return out
}

// remember: that was the client's last command.
func (s *Shard) remember(c client) {
	if s.clients == nil {
		s.clients = map[uint64]client{}
	}
	s.clients[c.number] = c
}

// keysOf: whether all that is put and deleted are keys.
func keysOf(puts []api.Pair, deletes []string) bool {
	for _, p := range puts {
		if len(p.Key) != api.HashLen {
			return false
		}
	}
	for _, key := range deletes {
		if len(key) != api.HashLen {
			return false
		}
	}
	return true
}

// changed: the map with the puts done in order, and then the deletes.
func changed(t *trie.Trie, puts []api.Pair, deletes []string) *trie.Trie {
	for _, p := range puts {
		t = t.Put(p.Key, p.Val)
	}
	for _, key := range deletes {
		t = t.Delete(key)
	}
	return t
}
