// Package log is what a node must not forget, on a disk: see shared/doc/08-log.md.
package log

import (
	"slices"
	"strings"

	"vidimus/api"
	"vidimus/disk"
)

// Log: what it tells, and the disk on which that is sure.
type Log struct {
	content
	disk *disk.Disk
	down bool // it was down once: it stays so
	room int  // how many bytes are appended still, till all is written anew
}

// Open: the log that stands on the disk.
func Open(d *disk.Disk) (*Log, api.Errno) {
	s, err := d.Read()
	if err != api.OK {
		return nil, api.ErrDown
	}
	c, ok := read(s)
	if !ok {
		return nil, api.ErrLost
	}
	// what the log tells from now on must be there behind a crash too
	if d.Waits() > 0 && d.Sync() != api.OK {
		return nil, api.ErrDown
	}
	// there is no room: the first change writes all anew, so that nothing stands behind a torn end
	return &Log{content: c, disk: d}, api.OK
}

// SetTerm: the term and the vote are so.
func (l *Log) SetTerm(term uint64, vote int) api.Errno {
	if l.Down() {
		return api.ErrDown
	}
	if !l.votes(term, vote) {
		return api.ErrArg
	}
	return l.change(voted, voteBody(term, vote))
}

// Add: behind that index just these entries stand.
func (l *Log) Add(behind uint64, entries ...api.Entry) api.Errno {
	if l.Down() {
		return api.ErrDown
	}
	if !l.takes(behind, len(entries)) {
		return api.ErrArg
	}
	return l.change(added, addBody(behind, entries))
}

// Compact: the base is that index, and the state stands for all up to it.
func (l *Log) Compact(index uint64, state string) api.Errno {
	if l.Down() {
		return api.ErrDown
	}
	term, ok := l.TermAt(index)
	if !ok {
		return api.ErrArg
	}
	return l.rebase(index, term, state)
}

// Install: the base is that index of that term, and the state stands for all up to it.
func (l *Log) Install(index, term uint64, state string) api.Errno {
	if l.Down() {
		return api.ErrDown
	}
	if index < l.base || index == l.base && term != l.baseTerm {
		return api.ErrArg
	}
	return l.rebase(index, term, state)
}

// Term: its term.
func (l *Log) Term() uint64 {
	if l == nil {
		return 0
	}
	return l.term
}

// Vote: its vote.
func (l *Log) Vote() int {
	if l == nil {
		return api.Nobody
	}
	return l.vote
}

// Base: the base's index, its term and its state.
func (l *Log) Base() (uint64, uint64, string) {
	if l == nil {
		return 0, 0, ""
	}
	return l.base, l.baseTerm, l.state
}

// Last: the last index.
func (l *Log) Last() uint64 {
	if l == nil {
		return 0
	}
	return l.last()
}

// At: the entry at that index, and whether there is one.
func (l *Log) At(index uint64) (api.Entry, bool) {
	if l == nil {
		return api.Entry{}, false
	}
	return l.at(index)
}

// TermAt: the term at that index, and whether there is one.
func (l *Log) TermAt(index uint64) (uint64, bool) {
	if l == nil {
		return 0, false
	}
	return l.termAt(index)
}

// Down: whether it is down. Once it was seen to be, it stays so.
func (l *Log) Down() bool {
	if l == nil {
		return true
	}
	l.down = l.down || l.disk.Down()
	return l.down
}

// change: a change of that kind is sure, and then done.
func (l *Log) change(kind byte, body string) api.Errno {
	if !l.write(record(kind, body)) {
		l.down = true
		return api.ErrDown
	}
	// done by what was written, so that the log is what an opening would find
	l.redo(kind, body)
	return api.OK
}

// write: whether the record is sure. All is written anew once as much is appended as was written then: so the disk holds no more than twice that, and an entry isn't written often.
func (l *Log) write(r string) bool {
	if len(r) > l.room {
		return l.swap(whole(l.content) + r)
	}
	l.room -= len(r)
	return l.disk.Append(r) == api.OK && l.disk.Sync() == api.OK
}

// swap: whether s stands there alone.
func (l *Log) swap(s string) bool {
	l.room = len(s)
	return l.disk.Swap(s) == api.OK
}

// rebase: the base is so; the entries behind it stay if the term at that index was that.
func (l *Log) rebase(index, term uint64, state string) api.Errno {
	next := l.content
	next.base, next.baseTerm, next.state = index, term, strings.Clone(state)
	next.entries = nil
	if there, ok := l.termAt(index); ok && there == term {
		next.entries = slices.Clone(l.entries[index-l.base:])
	}
	if !l.swap(whole(next)) {
		l.down = true
		return api.ErrDown
	}
	l.content = next
	return api.OK
}
