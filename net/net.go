// Package net is what is on its way: messages, in order, each with a number: see shared/doc/10-net.md.
package net

import (
	"slices"

	"vidimus/api"
)

// parcel: a message on its way, and its number. The message is never changed, so that it may be in two of them.
type parcel struct {
	number uint64
	msg    *api.Msg
}

// Net: what is on its way, in order, and how many were ever put there.
type Net struct {
	way []parcel
	all uint64
}

// New: a net on which nothing is yet.
func New() *Net {
	return &Net{}
}

// Put: the messages are on their way, behind all others.
func (n *Net) Put(l ...api.Msg) {
	if n == nil {
		return
	}
	for _, m := range l {
		own := copied(m)
		n.add(&own)
	}
}

// Len: how many are on their way.
func (n *Net) Len() int {
	if n == nil {
		return 0
	}
	return len(n.way)
}

// At: the message at a place, its number, and whether there is one.
func (n *Net) At(i int) (api.Msg, uint64, bool) {
	if !n.there(i) {
		return api.Msg{}, 0, false
	}
	return copied(*n.way[i].msg), n.way[i].number, true
}

// Take: the message at a place, which is on its way no more, and whether there was one.
func (n *Net) Take(i int) (api.Msg, bool) {
	m, _, ok := n.At(i)
	return m, ok && n.Drop(i)
}

// Twice: the message at a place is on its way once more, behind all others; whether there is one.
func (n *Net) Twice(i int) bool {
	if !n.there(i) {
		return false
	}
	n.add(n.way[i].msg)
	return true
}

// Drop: the message at a place is no more; whether there was one.
func (n *Net) Drop(i int) bool {
	if !n.there(i) {
		return false
	}
	n.way = without(n.way, i)
	return true
}

// To: the places of the messages to a node, rising.
func (n *Net) To(node int) []int {
	var out []int
	for i := range n.Len() {
		if n.way[i].msg.To == node {
			out = append(out, i)
		}
	}
	return out
}

// there: whether there is a message at a place.
func (n *Net) there(i int) bool {
	return i >= 0 && i < n.Len()
}

// add: the message is on its way, behind all others.
func (n *Net) add(m *api.Msg) {
	n.all++
	n.way = append(n.way, parcel{number: n.all, msg: m})
}

// copied: a message like m, in memory of its own.
func copied(m api.Msg) api.Msg {
	m.Entries = slices.Clone(m.Entries)
	return m
}

// without: l but for what is at i. The shorter side makes room, as most messages are taken where the eldest ones are.
func without(l []parcel, i int) []parcel {
	if i >= len(l)/2 {
		return slices.Delete(l, i, i+1)
	}
	copy(l[1:], l[:i])
	l[0] = parcel{}
	return l[1:]
}
