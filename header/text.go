package header

import (
	"vidimus/api"
	"vidimus/codec"
)

// Where a signed header's fields stand in its list.
const (
	shardAt = iota
	seqAt
	prevAt
	rootAt
	whoAt
	stampAt
	macAt
	signedFields
)

// Bytes of the shortest signed header: its list, four numbers, two hashes, and no Mac.
const signedLen = len("l\x07") + 4*len("n\x00") + 2*(len("s\x20")+api.HashLen) + len("s\x00")

// Text: the text of the list l; "", if one of it is no header, or there are too many of them.
func Text(l []api.Signed) string {
	// Headers that can't fit a record are not made nodes of: these would be many times as great.
	if len(l) > api.MaxBytes/signedLen {
		return ""
	}
	n := api.Node{Kind: api.List, Kids: make([]api.Node, len(l))}
	for i, s := range l {
		if !right(s.Header) {
			return ""
		}
		n.Kids[i] = Node(s)
	}
	out, _ := codec.Write(n)
	return out
}

// Read: the list whose text is s, and whether there is one.
func Read(s string) ([]api.Signed, bool) {
	n, ok := codec.Read(s)
	if !ok || n.Kind != api.List {
		return nil, false
	}
	var out []api.Signed
	for _, kid := range n.Kids {
		signed, ok := Of(kid)
		if !ok {
			return nil, false
		}
		out = append(out, signed)
	}
	return out, true
}

// Node: s as a node; the zero Node, if it is no header.
func Node(s api.Signed) api.Node {
	if !right(s.Header) {
		return api.Node{}
	}
	return codec.L(append(fields(s.Header), codec.S(s.Mac))...)
}

// Of: the signed header that n stands for, and whether it stands for one.
func Of(n api.Node) (api.Signed, bool) {
	if len(n.Kids) != signedFields {
		return api.Signed{}, false
	}
	s := api.Signed{
		Header: api.Header{
			Shard: n.Kids[shardAt].N, Seq: n.Kids[seqAt].N,
			Prev: n.Kids[prevAt].S, Root: n.Kids[rootAt].S,
			Who: n.Kids[whoAt].N, Stamp: n.Kids[stampAt].N,
		},
		Mac: n.Kids[macAt].S,
	}
	// What else may be in a node is held against the one that there is of s.
	if !right(s.Header) || !codec.Same(n, Node(s)) {
		return api.Signed{}, false
	}
	return s, true
}

// fields: the nodes of a header's fields, in order.
func fields(h api.Header) []api.Node {
	return []api.Node{codec.N(h.Shard), codec.N(h.Seq), codec.S(h.Prev), codec.S(h.Root), codec.N(h.Who), codec.N(h.Stamp)}
}
