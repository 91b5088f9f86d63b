package shard

import (
	"vidimus/api"
	"vidimus/codec"
	"vidimus/header"
)

// Where an answer's fields stand in its list, the serial being the first one: what is answered, and behind seen the headers and the text.
const (
	saidAt    = 1
	headersAt = 2
	textAt    = 3
)

// Answer: the answer whose bytes s are, and whether there is one.
func Answer(s string) (api.Answer, bool) {
	n, ok := codec.Read(s)
	switch {
	case ok && shaped(n, api.Num, api.Num):
		said := n.Kids[saidAt].N
		if said != api.Seen && said <= api.Bad {
			return api.Answer{Serial: n.Kids[0].N, What: int(said)}, true
		}
	case ok && shaped(n, api.Num, api.Num, api.List, api.Str):
		headers, all := read(n.Kids[headersAt], header.Of)
		if all && n.Kids[saidAt].N == api.Seen {
			return api.Answer{Serial: n.Kids[0].N, What: api.Seen, Headers: headers, Text: n.Kids[textAt].S}, true
		}
	}
	return api.Answer{}, false
}

// short: the bytes of an answer that is a word.
func short(serial uint64, what int) string {
	return written(codec.N(serial), codec.N(uint64(what)))
}

// seen: the bytes of an answer of these headers and that text. Where these are too many, it is bad: whoever asked must be told something.
func seen(serial uint64, headers []api.Signed, text string) string {
	out := ""
	if fit(len(headers), signedLen) {
		out = written(codec.N(serial), codec.N(api.Seen), listOf(headers, header.Node), codec.S(text))
	}
	if out == "" {
		return short(serial, api.Bad)
	}
	return out
}
