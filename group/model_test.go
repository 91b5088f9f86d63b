package group

import (
	"fmt"
	"slices"

	"vidimus/api"
	"vidimus/disk"
	"vidimus/log"
	"vidimus/raft"
)

// model: a group in the chapter's plainest words: disks, nodes, a list of what is on its way, and of each node what its machine did.
type model struct {
	disks    []*disk.Disk
	nodes    []*raft.Node
	did      [][]string
	applied  []uint64
	way      []api.Msg
	outcomes []api.Outcome
}

func newModel(n int) *model {
	m := &model{nodes: make([]*raft.Node, n), did: make([][]string, n), applied: make([]uint64, n)}
	for i := range n {
		m.disks = append(m.disks, disk.New())
		m.start(i)
	}
	return m
}

func (m *model) start(i int) {
	l, err := log.Open(m.disks[i])
	if err != api.OK {
		panic(err)
	}
	m.nodes[i], err = raft.Start(i, len(m.nodes), l)
	if err != api.OK {
		panic(err)
	}
	base, _, state := l.Base()
	m.did[i], m.applied[i] = nil, base
	if base != 0 {
		m.did[i], _ = didOf(state)
	}
}

// does: the node did something, and sent that.
func (m *model) does(i int, sent []api.Msg) {
	m.way = append(m.way, sent...)
	x := m.nodes[i]
	if x.Down() {
		return
	}
	base, _, state := x.Log().Base()
	if base > m.applied[i] {
		m.did[i], _ = didOf(state)
		m.applied[i] = base
	}
	for index := m.applied[i] + 1; index <= x.Commit(); index++ {
		m.applied[i] = index
		e, ok := x.Log().At(index)
		if !ok {
			panic(fmt.Sprintf("nothing at %d", index))
		}
		if e.Cmd == "" {
			continue
		}
		m.did[i] = append(m.did[i], e.Cmd)
		m.outcomes = append(m.outcomes, api.Outcome{Node: i, Index: index, Term: e.Term, Out: answerOf(len(m.did[i]), e.Cmd)})
	}
}

func (m *model) tick(i int) { m.does(i, m.nodes[i].Tick()) }

// take: the message at that place, which is on its way no more.
func (m *model) take(k int) api.Msg {
	g := m.way[k]
	m.way = slices.Delete(m.way, k, k+1)
	return g
}

func (m *model) deliver(k int) {
	g := m.take(k)
	m.does(g.To, m.nodes[g.To].Receive(g))
}

func (m *model) propose(i int, cmd string) (uint64, uint64) {
	index, term, sent := m.nodes[i].Propose(cmd)
	m.does(i, sent)
	return index, term
}

func (m *model) compact(i int) api.Errno {
	if m.nodes[i].Down() {
		return api.ErrDown
	}
	return m.nodes[i].Compact(m.applied[i], stateOf(m.did[i]))
}

func (m *model) crash(i, keep int) {
	m.disks[i].Crash(keep)
	m.start(i)
}

// tell: all that a group like it tells, but for outcomes.
func (m *model) tell() string {
	out := fmt.Sprintf("%+v\n", m.way)
	for i, x := range m.nodes {
		out += fmt.Sprintf("%s; did %q, up to %d\n", nodeOf(x), m.did[i], m.applied[i])
	}
	return out
}
