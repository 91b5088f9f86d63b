package raft

import (
	"fmt"
	"math"
	"reflect"
	"slices"
	"testing"

	"vidimus/api"
	"vidimus/disk"
	"vidimus/log"
)

const (
	nobody   = api.Nobody
	greatest = math.MaxUint64
)

func list(l ...api.Msg) []api.Msg { return l }

func askVote(from, to int, term, index, logTerm uint64) api.Msg {
	return api.Msg{Kind: api.AskVote, From: from, To: to, Term: term, Index: index, LogTerm: logTerm}
}

func vote(from, to int, term uint64, ok bool) api.Msg {
	return api.Msg{Kind: api.Vote, From: from, To: to, Term: term, OK: ok}
}

func appendMsg(from, to int, term, index, logTerm, commit uint64, entries ...api.Entry) api.Msg {
	return api.Msg{Kind: api.Append, From: from, To: to, Term: term, Index: index, LogTerm: logTerm, Commit: commit, Entries: entries}
}

func appended(from, to int, term uint64, ok bool, index uint64) api.Msg {
	return api.Msg{Kind: api.Appended, From: from, To: to, Term: term, OK: ok, Index: index}
}

func snap(from, to int, term, index, logTerm uint64, state string) api.Msg {
	return api.Msg{Kind: api.Snap, From: from, To: to, Term: term, Index: index, LogTerm: logTerm, State: state}
}

// run: entries of these terms, behind that index; of each the command tells its index and its term.
func run(behind uint64, terms ...uint64) []api.Entry {
	var out []api.Entry
	for i, term := range terms {
		out = append(out, api.Entry{Term: term, Cmd: fmt.Sprintf("%d of %d", behind+1+uint64(i), term)})
	}
	return out
}

// times: that number, so often.
func times(term uint64, n int) []uint64 {
	return slices.Repeat([]uint64{term}, n)
}

// kept: what stands in a log as its node starts.
type kept struct {
	term           uint64
	vote           int
	base, baseTerm uint64
	terms          []uint64 // of its entries
}

// empty: what stands in a new log.
func empty() kept { return kept{vote: nobody} }

// of: a log in that term, without a vote, without a base, with entries of these terms.
func of(term uint64, terms ...uint64) kept {
	return kept{term: term, vote: nobody, terms: terms}
}

// behind: likewise behind a base.
func behind(base, baseTerm, term uint64, terms ...uint64) kept {
	return kept{term: term, vote: nobody, base: base, baseTerm: baseTerm, terms: terms}
}

// voted: likewise, with that vote.
func (k kept) voted(vote int) kept {
	k.vote = vote
	return k
}

// open: such a log on that disk.
func (k kept) open(t *testing.T, d *disk.Disk) *log.Log {
	t.Helper()
	l, err := log.Open(d)
	right(t, err, api.OK)
	right(t, l.SetTerm(k.term, k.vote), api.OK)
	right(t, l.Install(k.base, k.baseTerm, "state"), api.OK)
	right(t, l.Add(k.base, run(k.base, k.terms...)...), api.OK)
	return l
}

// right: a call answered what the chapter asks for.
func right(t *testing.T, got, want api.Errno) {
	t.Helper()
	if got != want {
		t.Errorf("error %d; asked for %d", got, want)
	}
}

// sent: these messages were sent, and no others.
func sent(t *testing.T, got []api.Msg, want ...api.Msg) {
	t.Helper()
	if s := unlike(got, want); s != "" {
		t.Error(s)
	}
}

// unlike: how the messages differ, or "". An empty list may be nil or not.
func unlike(got, want []api.Msg) string {
	same := slices.EqualFunc(got, want, func(a, b api.Msg) bool {
		entries := slices.Equal(a.Entries, b.Entries)
		a.Entries, b.Entries = nil, nil
		return entries && reflect.DeepEqual(a, b)
	})
	if same {
		return ""
	}
	return fmt.Sprintf("sent %+v; asked for %+v", got, want)
}

// pair: a node, and the model that goes beside it.
type pair struct {
	t *testing.T
	d *disk.Disk
	x *Node
	m *model
}

// start: a node of that number, one of n, on such a log.
func start(t *testing.T, id, n int, k kept) *pair {
	t.Helper()
	d := disk.New()
	return startOn(t, id, n, d, k.open(t, d))
}

// startOn: likewise, on that disk's log.
func startOn(t *testing.T, id, n int, d *disk.Disk, l *log.Log) *pair {
	t.Helper()
	x, err := Start(id, n, l)
	right(t, err, api.OK)
	p := &pair{t, d, x, modelOf(id, n, l)}
	p.same("Start")
	return p
}

// same: the node tells what its model tells.
func (p *pair) same(call string) {
	p.t.Helper()
	if got, want := tellOf(p.x), p.m.tell(); got != want {
		p.t.Fatalf("behind %s: %s; asked for %s", call, got, want)
	}
}

// held: what the node did is what its model does; or it went down, and sends nothing. Then its log tells what the model's told at some time of the call.
func (p *pair) held(call string, got, want []api.Msg) {
	p.t.Helper()
	if p.x.Down() {
		if len(got) > 0 || !slices.Contains(p.m.trail, keptOf(p.x.Log())) {
			p.t.Fatalf("%s, and went down: sent %+v, %s; asked for one of %q", call, got, keptOf(p.x.Log()), p.m.trail)
		}
		return
	}
	if s := unlike(got, want); s != "" {
		p.t.Fatalf("%s: %s", call, s)
	}
	p.same(call)
}

func (p *pair) tick() []api.Msg {
	p.t.Helper()
	p.m.trail = []string{p.m.kept()}
	got := p.x.Tick()
	p.held("Tick", got, p.m.tick())
	return got
}

func (p *pair) receive(g api.Msg) []api.Msg {
	p.t.Helper()
	p.m.trail = []string{p.m.kept()}
	got := p.x.Receive(g)
	p.held(fmt.Sprintf("Receive(%+v)", g), got, p.m.receive(g))
	return got
}

func (p *pair) propose(cmd string) (uint64, uint64, []api.Msg) {
	p.t.Helper()
	p.m.trail = []string{p.m.kept()}
	index, term, got := p.x.Propose(cmd)
	i, u, want := p.m.propose(cmd)
	p.held("Propose", got, want)
	if p.x.Down() {
		i, u = 0, 0
	}
	if index != i || term != u {
		p.t.Fatalf("Propose: %d, %d; asked for %d, %d", index, term, i, u)
	}
	return index, term, got
}

func (p *pair) compact(index uint64, state string) api.Errno {
	p.t.Helper()
	p.m.trail = []string{p.m.kept()}
	got := p.x.Compact(index, state)
	want := p.m.compact(index, state)
	p.held("Compact", nil, nil)
	if p.x.Down() {
		want = api.ErrDown
	}
	if got != want {
		p.t.Fatalf("Compact(%d): %d; asked for %d", index, got, want)
	}
	return got
}

// ticks: so many, at which nothing is sent.
func (p *pair) ticks(n int) {
	p.t.Helper()
	for i := range n {
		if l := p.tick(); len(l) > 0 {
			p.t.Fatalf("tick %d sends %+v", i+1, l)
		}
	}
}

// stands: it ticks until it stands: what it sends, and how many ticks that took.
func (p *pair) stands() (l []api.Msg, ticks int) {
	p.t.Helper()
	for term := p.x.Log().Term(); p.x.Log().Term() == term; ticks++ {
		if ticks > 100 {
			p.t.Fatal("doesn't stand")
		}
		l = p.tick()
	}
	return l, ticks
}

// candidate: a node that stands, in the term behind the log's.
func candidate(t *testing.T, id, n int, k kept) *pair {
	t.Helper()
	p := start(t, id, n, k)
	p.stands()
	return p
}

// leader: a node that won, in the term behind the log's; the first thing it sends.
func leader(t *testing.T, id, n int, k kept) (*pair, []api.Msg) {
	t.Helper()
	p := candidate(t, id, n, k)
	var l []api.Msg
	for i := 0; p.x.Role() != api.Leader; i++ {
		if i != id {
			l = p.receive(vote(i, id, k.term+1, true))
		}
	}
	return p, l
}
