package log

import (
	"math"
	"slices"

	"vidimus/api"
)

// content: what a log tells.
type content struct {
	term     uint64
	vote     int
	base     uint64
	baseTerm uint64
	state    string
	entries  []api.Entry // with the indexes base + 1 and so on
}

// last: the last index.
func (c *content) last() uint64 {
	return c.base + uint64(len(c.entries))
}

// at: the entry at that index, and whether there is one.
func (c *content) at(index uint64) (api.Entry, bool) {
	if index <= c.base || index > c.last() {
		return api.Entry{}, false
	}
	return c.entries[index-c.base-1], true
}

// termAt: the term at that index, and whether there is one.
func (c *content) termAt(index uint64) (uint64, bool) {
	if index == c.base {
		return c.baseTerm, true
	}
	e, ok := c.at(index)
	return e.Term, ok
}

// votes: whether the term and the vote may be so.
func (c *content) votes(term uint64, vote int) bool {
	return term >= c.term && vote >= api.Nobody
}

// takes: whether n entries may stand behind that index. Behind the greatest number there is no index for one.
func (c *content) takes(behind uint64, n int) bool {
	return c.base <= behind && behind <= c.last() && uint64(n) <= math.MaxUint64-behind
}

// redo: whether the record's change could be done; then it is.
func (c *content) redo(kind byte, body string) bool {
	r := reader{rest: body}
	switch kind {
	case voted:
		term, vote := r.number(), int(r.number())
		if !r.ended() || !c.votes(term, vote) {
			return false
		}
		c.term, c.vote = term, vote
	case added:
		behind, entries := r.number(), r.entries()
		if !r.ended() || !c.takes(behind, len(entries)) {
			return false
		}
		c.entries = slices.Replace(c.entries, int(behind-c.base), len(c.entries), entries...)
	default:
		return false
	}
	return true
}
