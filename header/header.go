// Package header makes chains of signed roots, which only a key's holders make: see shared/doc/12-header.md.
package header

import (
	"math"

	"vidimus/api"
	"vidimus/codec"
	"vidimus/sha"
	"vidimus/trie"
)

// Bytes: the bytes of h, and whether it is a header.
func Bytes(h api.Header) (string, bool) {
	if !right(h) {
		return "", false
	}
	return codec.Write(codec.L(fields(h)...))
}

// Hash: the hash of h; "", if it is no header.
func Hash(h api.Header) string {
	s, ok := Bytes(h)
	if !ok {
		return ""
	}
	return sha.Sum(s)
}

// Sign: h, signed by the key, and whether it is a header.
func Sign(key string, h api.Header) (api.Signed, bool) {
	s, ok := Bytes(h)
	if !ok {
		return api.Signed{}, false
	}
	return api.Signed{Header: h, Mac: sha.Mac(key, s)}, true
}

// Check: whether s is a header that was signed by the key.
func Check(key string, s api.Signed) bool {
	signed, ok := Sign(key, s.Header)
	return ok && s.Mac == signed.Mac
}

// First: the first header of a shard, signed by the key.
func First(key string, shard uint64) api.Signed {
	none := string(make([]byte, api.HashLen))
	s, _ := Sign(key, api.Header{Shard: shard, Prev: none, Root: trie.Empty()})
	return s
}

// Next: the header that follows that of s, with this root, signed by the key, and whether there is one.
func Next(key string, s api.Signed, root string, who, stamp uint64) (api.Signed, bool) {
	h := s.Header
	if !right(h) || h.Seq == math.MaxUint64 {
		return api.Signed{}, false
	}
	return Sign(key, api.Header{Shard: h.Shard, Seq: h.Seq + 1, Prev: Hash(h), Root: root, Who: who, Stamp: stamp})
}

// Follows: whether b is a header that follows the header a.
func Follows(a, b api.Header) bool {
	return right(a) && right(b) && b.Shard == a.Shard && b.Seq != 0 && b.Seq == a.Seq+1 && b.Prev == Hash(a)
}

// Chain: the last one of l, and whether l is a chain from from on, signed by the key; from itself needn't be.
func Chain(key string, from api.Signed, l []api.Signed) (api.Signed, bool) {
	last := from
	for _, s := range l {
		if !Follows(last.Header, s.Header) || !Check(key, s) {
			return api.Signed{}, false
		}
		last = s
	}
	return last, true
}

// right: whether h is a header.
func right(h api.Header) bool {
	return len(h.Prev) == api.HashLen && len(h.Root) == api.HashLen
}
