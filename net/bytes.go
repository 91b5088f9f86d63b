package net

import (
	"vidimus/api"
	"vidimus/codec"
)

// Where a message's fields stand in its list.
const (
	kindAt = iota
	fromAt
	toAt
	termAt
	indexAt
	logTermAt
	commitAt
	okAt
	entriesAt
	stateAt
	fields
)

const (
	most        = 1 << 31                // of the numbers that stand for Kind, From and To
	entryFields = 2                      // a term and a command
	entryLen    = len("l\x02n\x00s\x00") // bytes of the shortest entry
)

// Bytes: the bytes of a message; "", if it has none.
func Bytes(m api.Msg) string {
	if m.Kind < 0 || m.From < api.Nobody || m.To < api.Nobody {
		return ""
	}
	// Entries that can't fit a record are not made nodes of: these would be many times as great.
	if len(m.Entries) > api.MaxBytes/entryLen {
		return ""
	}
	// The sums are made of unsigned numbers, as the greatest From and To have no greater one above them.
	out, _ := codec.Write(list(
		codec.N(uint64(m.Kind)), codec.N(uint64(m.From)+1), codec.N(uint64(m.To)+1),
		codec.N(m.Term), codec.N(m.Index), codec.N(m.LogTerm), codec.N(m.Commit),
		codec.N(one(m.OK)), entriesNode(m.Entries), codec.S(m.State),
	))
	return out
}

// Read: the message whose bytes are s, and whether there is one.
func Read(s string) (api.Msg, bool) {
	n, ok := codec.Read(s)
	if !ok || !shaped(n) {
		return api.Msg{}, false
	}
	kind, from, to := n.Kids[kindAt].N, n.Kids[fromAt].N, n.Kids[toAt].N
	if kind > most || from > most || to > most || n.Kids[okAt].N > 1 {
		return api.Msg{}, false
	}
	entries, ok := readEntries(n.Kids[entriesAt].Kids)
	if !ok {
		return api.Msg{}, false
	}
	return api.Msg{
		Kind: int(kind), From: int(from) - 1, To: int(to) - 1,
		Term: n.Kids[termAt].N, Index: n.Kids[indexAt].N, LogTerm: n.Kids[logTermAt].N, Commit: n.Kids[commitAt].N,
		OK: n.Kids[okAt].N == 1, Entries: entries, State: n.Kids[stateAt].S,
	}, true
}

// list: of these very kids; codec's L copies them down to the last ones, and entries may be many.
func list(kids ...api.Node) api.Node {
	return api.Node{Kind: api.List, Kids: kids}
}

// one: 1 if ok, else 0.
func one(ok bool) uint64 {
	if ok {
		return 1
	}
	return 0
}

// entriesNode: the list of the entries, each the list of its term and command.
func entriesNode(entries []api.Entry) api.Node {
	kids := make([]api.Node, len(entries))
	for i, e := range entries {
		kids[i] = list(codec.N(e.Term), codec.S(e.Cmd))
	}
	return list(kids...)
}

// readEntries: the entries that these nodes stand for, and whether they stand for such.
func readEntries(kids []api.Node) ([]api.Entry, bool) {
	var out []api.Entry
	for _, n := range kids {
		if n.Kind != api.List || len(n.Kids) != entryFields || n.Kids[0].Kind != api.Num || n.Kids[1].Kind != api.Str {
			return nil, false
		}
		out = append(out, api.Entry{Term: n.Kids[0].N, Cmd: n.Kids[1].S})
	}
	return out, true
}

// shaped: whether n is a list of as many nodes as a message has fields, each of its field's kind.
func shaped(n api.Node) bool {
	if n.Kind != api.List || len(n.Kids) != fields {
		return false
	}
	for i, kid := range n.Kids {
		if kid.Kind != kindOf(i) {
			return false
		}
	}
	return true
}

// kindOf: of which kind of node the field at a place is.
func kindOf(i int) int {
	switch i {
	case entriesAt:
		return api.List
	case stateAt:
		return api.Str
	}
	return api.Num
}
