package shard

import (
	"maps"
	"math"
	"regexp"
	"slices"
	"strings"

	"vidimus/api"
	"vidimus/codec"
	"vidimus/part"
)

// model: a shard in the chapter's plainest words.
type model struct {
	number uint64
	chain  []api.Signed
	pairs  map[string]string
	told   map[uint64]answered
}

// answered: the serial of a client's last command, and its answer.
type answered struct {
	serial uint64
	answer string
}

func newModel(number uint64, first api.Signed) *model {
	return &model{number: number, chain: []api.Signed{first}, pairs: map[string]string{}, told: map[uint64]answered{}}
}

// apply: what a shard answers.
func (m *model) apply(s string) string {
	c, ok := plainCommand(s)
	if !ok {
		return "l\x02n\x00n\x01\x05"
	}
	if a, ok := m.told[c.client]; ok {
		if a.serial == c.serial {
			return a.answer
		}
		if c.serial < a.serial {
			return word(c.serial, 4)
		}
	}
	answer := ""
	if c.what == 0 {
		answer = m.look(c)
	} else {
		answer = word(c.serial, m.swap(c))
	}
	m.told[c.client] = answered{serial: c.serial, answer: answer}
	return answer
}

func (m *model) look(c cmd) string {
	if c.seq > m.chain[len(m.chain)-1].Header.Seq {
		return word(c.serial, 2)
	}
	var behind []api.Signed
	for _, s := range m.chain {
		if s.Header.Seq > c.seq {
			behind = append(behind, s)
		}
	}
	shown, ok := part.Show(mapOf(m.pairs), c.keys, c.under)
	if out := story(c.serial, behind, shown); ok && len(out) <= 1<<24 {
		return out
	}
	return word(c.serial, 5)
}

func (m *model) swap(c cmd) int {
	last, next := m.chain[len(m.chain)-1].Header, c.next.Header
	if c.hash != plainHash(last) {
		return 3
	}
	if next.Shard != last.Shard || last.Seq == math.MaxUint64 || next.Seq != last.Seq+1 || next.Prev != plainHash(last) {
		return 5
	}
	if len(last.Prev) != 32 || len(last.Root) != 32 {
		return 5
	}
	for _, p := range c.puts {
		if len(p.Key) != 32 {
			return 5
		}
	}
	for _, k := range c.deletes {
		if len(k) != 32 {
			return 5
		}
	}
	pairs := done(m.pairs, c.puts, c.deletes)
	if mapOf(pairs).Root() != next.Root {
		return 5
	}
	m.chain, m.pairs = append(slices.Clone(m.chain), c.next), pairs
	return 1
}

// state: by the chapter's words.
func (m *model) state() string {
	var pairs, clients []string
	for _, k := range slices.Sorted(maps.Keys(m.pairs)) {
		pairs = append(pairs, rows(text(k), text(m.pairs[k])))
	}
	for _, n := range slices.Sorted(maps.Keys(m.told)) {
		clients = append(clients, rows(num(n), num(m.told[n].serial), text(m.told[n].answer)))
	}
	out := rows(num(m.number), each(m.chain, plainSigned), rows(pairs...), rows(clients...))
	if len(out) > 1<<24 {
		return ""
	}
	return out
}

// shape: a letter for each number and text, lists in parentheses.
func shape(n api.Node) string {
	switch n.Kind {
	case api.Num:
		return "n"
	case api.Str:
		return "s"
	}
	var b strings.Builder
	b.WriteString("(")
	for _, kid := range n.Kids {
		b.WriteString(shape(kid))
	}
	return b.String() + ")"
}

// The shapes of what there is.
var (
	lookShape   = regexp.MustCompile(`^\(nnnn\(s*\)\((\(sn\))*\)\)$`)
	swapShape   = regexp.MustCompile(`^\(nnns\(nnssnns\)\((\(ss\))*\)\(s*\)\)$`)
	wordShape   = regexp.MustCompile(`^\(nn\)$`)
	storyShape  = regexp.MustCompile(`^\(nn\((\(nnssnns\))*\)s\)$`)
	stateShape  = regexp.MustCompile(`^\(n\((\(nnssnns\))+\)\((\(ss\))*\)\((\(nns\))*\)\)$`)
	headerShape = regexp.MustCompile(`^\(nnssnns\)$`)
)

// signedOf: the header that a node of that shape stands for, and whether it is one.
func signedOf(n api.Node) (api.Signed, bool) {
	k := n.Kids
	h := api.Header{Shard: k[0].N, Seq: k[1].N, Prev: k[2].S, Root: k[3].S, Who: k[4].N, Stamp: k[5].N}
	return api.Signed{Header: h, Mac: k[6].S}, headerShape.MatchString(shape(n)) && len(h.Prev) == 32 && len(h.Root) == 32
}

// signedAll: those of a list of such nodes, and whether all are headers.
func signedAll(n api.Node) ([]api.Signed, bool) {
	var out []api.Signed
	for _, kid := range n.Kids {
		s, ok := signedOf(kid)
		if !ok {
			return nil, false
		}
		out = append(out, s)
	}
	return out, true
}

// texts: those of a list of texts.
func texts(n api.Node) []string {
	var out []string
	for _, kid := range n.Kids {
		out = append(out, kid.S)
	}
	return out
}

// plainCommand: the command whose bytes these are, and whether there is one.
func plainCommand(s string) (cmd, bool) {
	n, ok := codec.Read(s)
	if !ok {
		return cmd{}, false
	}
	at := shape(n)
	switch {
	case lookShape.MatchString(at) && n.Kids[0].N == 0:
		c := cmd{client: n.Kids[1].N, serial: n.Kids[2].N, seq: n.Kids[3].N, keys: texts(n.Kids[4])}
		for _, kid := range n.Kids[5].Kids {
			c.under = append(c.under, api.Prefix{Key: kid.Kids[0].S, Bits: int(kid.Kids[1].N)})
		}
		return c, true
	case swapShape.MatchString(at) && n.Kids[0].N == 1:
		next, ok := signedOf(n.Kids[4])
		c := cmd{what: 1, client: n.Kids[1].N, serial: n.Kids[2].N, hash: n.Kids[3].S, next: next, deletes: texts(n.Kids[6])}
		for _, kid := range n.Kids[5].Kids {
			c.puts = append(c.puts, api.Pair{Key: kid.Kids[0].S, Val: kid.Kids[1].S})
		}
		return c, ok
	}
	return cmd{}, false
}

// plainAnswer: the answer whose bytes these are, and whether there is one.
func plainAnswer(s string) (api.Answer, bool) {
	n, ok := codec.Read(s)
	if !ok {
		return api.Answer{}, false
	}
	at := shape(n)
	switch {
	case wordShape.MatchString(at) && n.Kids[1].N >= 1 && n.Kids[1].N <= 5:
		return api.Answer{Serial: n.Kids[0].N, What: int(n.Kids[1].N)}, true
	case storyShape.MatchString(at) && n.Kids[1].N == 0:
		if l, ok := signedAll(n.Kids[2]); ok {
			return api.Answer{Serial: n.Kids[0].N, Headers: l, Text: n.Kids[3].S}, true
		}
	}
	return api.Answer{}, false
}

// plainState: the model of that state, and whether there is one.
func plainState(s string) (*model, bool) {
	n, ok := codec.Read(s)
	if !ok || !stateShape.MatchString(shape(n)) {
		return nil, false
	}
	chain, ok := signedAll(n.Kids[1])
	if !ok {
		return nil, false
	}
	m := &model{number: n.Kids[0].N, chain: chain, pairs: map[string]string{}, told: map[uint64]answered{}}
	for i, p := range n.Kids[2].Kids {
		if len(p.Kids[0].S) != 32 || i > 0 && n.Kids[2].Kids[i-1].Kids[0].S >= p.Kids[0].S {
			return nil, false
		}
		m.pairs[p.Kids[0].S] = p.Kids[1].S
	}
	for i, c := range n.Kids[3].Kids {
		a, ok := plainAnswer(c.Kids[2].S)
		if !ok || a.Serial != c.Kids[1].N || i > 0 && n.Kids[3].Kids[i-1].Kids[0].N >= c.Kids[0].N {
			return nil, false
		}
		m.told[c.Kids[0].N] = answered{serial: c.Kids[1].N, answer: c.Kids[2].S}
	}
	return m, true
}
