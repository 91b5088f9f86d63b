package cipher

import (
	"vidimus/api"
	"vidimus/codec"
)

// Value: v as a node, and whether it is a value.
func Value(v api.Val) (api.Node, bool) {
	switch {
	case v == api.Val{Kind: api.Null}:
		return codec.L(codec.N(api.Null)), true
	case v == api.Val{Kind: api.Int, N: v.N}:
		return codec.L(codec.N(api.Int), codec.N(uint64(v.N))), true
	case v == api.Val{Kind: api.Text, S: v.S} && len(v.S) <= api.MaxText:
		return codec.L(codec.N(api.Text), codec.S(v.S)), true
	}
	return api.Node{}, false
}

// Of: the value that n stands for, and whether it stands for one.
func Of(n api.Node) (api.Val, bool) {
	var v api.Val
	switch len(n.Kids) {
	case 1:
		v = api.Val{Kind: int(n.Kids[0].N)}
	case 2:
		v = api.Val{Kind: int(n.Kids[0].N), N: int64(n.Kids[1].N), S: n.Kids[1].S}
	}
	// What else may be in a node is held against the one that there is of v.
	same, ok := Value(v)
	if !ok || !codec.Same(n, same) {
		return api.Val{}, false
	}
	return v, true
}
