package shard

import (
	"slices"

	"vidimus/api"
	"vidimus/codec"
)

// Bytes of the shortest items of lists.
const (
	keyLen    = len("s\x00")
	prefixLen = len("l\x02s\x00n\x00")
	pairLen   = len("l\x02s\x00s\x00")
	signedLen = len("l\x07") + 4*len("n\x00") + 2*(len("s\x20")+api.HashLen) + len("s\x00")
	clientLen = len("l\x03n\x00n\x00s\x00")
)

// fit: whether so many items of at least so many bytes may be in a record. Of others no nodes are made: these would be many times as great.
func fit(count, least int) bool {
	return count <= api.MaxBytes/least
}

// written: the bytes of the list of these; "", if they would be too many.
func written(kids ...api.Node) string {
	out, _ := codec.Write(list(kids...))
	return out
}

// list: of these very kids; codec's L copies them down to the last ones, and they may be many.
func list(kids ...api.Node) api.Node {
	return api.Node{Kind: api.List, Kids: kids}
}

// listOf: the list of the nodes of all of l.
func listOf[T any](l []T, node func(T) api.Node) api.Node {
	kids := make([]api.Node, len(l))
	for i, x := range l {
		kids[i] = node(x)
	}
	return list(kids...)
}

// shaped: whether n is a list of just so many kids, of these kinds.
func shaped(n api.Node, kinds ...int) bool {
	return n.Kind == api.List && slices.EqualFunc(n.Kids, kinds, func(kid api.Node, kind int) bool { return kid.Kind == kind })
}

// read: what the kids of a list stand for, and whether all of them stand for something.
func read[T any](n api.Node, of func(api.Node) (T, bool)) ([]T, bool) {
	var out []T
	for _, kid := range n.Kids {
		x, ok := of(kid)
		if !ok {
			return nil, false
		}
		out = append(out, x)
	}
	return out, true
}

// textOf: the text that n is, and whether it is one.
func textOf(n api.Node) (string, bool) {
	return n.S, n.Kind == api.Str
}

// pairNode: a pair as a node.
func pairNode(p api.Pair) api.Node {
	return list(codec.S(p.Key), codec.S(p.Val))
}

// pairOf: the pair that n stands for, and whether it stands for one.
func pairOf(n api.Node) (api.Pair, bool) {
	if !shaped(n, api.Str, api.Str) {
		return api.Pair{}, false
	}
	return api.Pair{Key: n.Kids[0].S, Val: n.Kids[1].S}, true
}

// prefixNode: a prefix as a node, a number of bits below 0 going round.
func prefixNode(p api.Prefix) api.Node {
	return list(codec.S(p.Key), codec.N(uint64(p.Bits)))
}

// prefixOf: the prefix that n stands for, and whether it stands for one, right or not.
func prefixOf(n api.Node) (api.Prefix, bool) {
	if !shaped(n, api.Str, api.Num) {
		return api.Prefix{}, false
	}
	// no key has more bits than there are, however many more; so none of these goes round to a number that is right
	bits := min(n.Kids[1].N, api.KeyBits+1)
	return api.Prefix{Key: n.Kids[0].S, Bits: int(bits)}, true
}
