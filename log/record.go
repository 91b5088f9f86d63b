package log

import (
	"strings"

	"vidimus/api"
)

// The disk holds records: first one of all that the log was, and behind it one for each change; of the last of these a crash may have torn the end. A record is its kind and how long its body is, and then its body, each with its sum behind it.

// Kinds of records: bytes that texts of letters have nowhere, so that few texts are taken for a torn record.
const (
	wrote = 0xf8 // all anew
	voted = 0xf9
	added = 0xfa
)

const (
	numLen  = 8          // bytes of a number
	headLen = 1 + numLen // bytes of a record's kind and its body's length
)

// read: what a log on these bytes tells, and whether a log left them.
func read(s string) (content, bool) {
	if s == "" {
		return content{vote: api.Nobody}, true
	}
	r := reader{rest: s}
	kind, body := r.record()
	// all is written anew by swapping, which no crash tears
	if r.wrong || r.short || kind != wrote {
		return content{}, false
	}
	c, ok := readAll(body)
	for ok && r.rest != "" {
		next := r.rest[0]
		kind, body = r.record()
		if r.short {
			return c, next == voted || next == added
		}
		ok = !r.wrong && c.redo(kind, body)
	}
	return c, ok
}

// readAll: what the body of a record of all tells, and whether it is one.
func readAll(body string) (content, bool) {
	r := reader{rest: body}
	c := content{
		term:     r.number(),
		vote:     int(r.number()),
		base:     r.number(),
		baseTerm: r.number(),
		state:    r.text(),
	}
	entries := r.entries()
	if !r.ended() || c.vote < api.Nobody || !c.takes(c.base, len(entries)) {
		return content{}, false
	}
	c.entries = entries
	return c, true
}

// whole: the record of all that the log is.
func whole(c content) string {
	var w writer
	w.number(c.term)
	w.number(uint64(c.vote))
	w.number(c.base)
	w.number(c.baseTerm)
	w.text(c.state)
	w.entries(c.entries)
	return record(wrote, w.String())
}

// voteBody: the body of a record of a term and a vote.
func voteBody(term uint64, vote int) string {
	var w writer
	w.number(term)
	w.number(uint64(vote))
	return w.String()
}

// addBody: the body of a record of entries behind an index.
func addBody(behind uint64, entries []api.Entry) string {
	var w writer
	w.number(behind)
	w.entries(entries)
	return w.String()
}

// record: a record of that kind, with that body.
func record(kind byte, body string) string {
	var head, w writer
	head.WriteByte(kind)
	head.number(uint64(len(body)))
	w.sealed(head.String())
	w.sealed(body)
	return w.String()
}

// sum: a number that other bytes hardly have (FNV-1a).
func sum(s string) uint64 {
	n := uint64(14695981039346656037)
	for i := range len(s) {
		n = (n ^ uint64(s[i])) * 1099511628211
	}
	return n
}

// writer: bytes that get more.
type writer struct {
	strings.Builder
}

// number: n, the highest byte first.
func (w *writer) number(n uint64) {
	for shift := 8 * (numLen - 1); shift >= 0; shift -= 8 {
		w.WriteByte(byte(n >> shift))
	}
}

// text: s, behind its length.
func (w *writer) text(s string) {
	w.number(uint64(len(s)))
	w.WriteString(s)
}

// entries: these; they end where a body ends.
func (w *writer) entries(entries []api.Entry) {
	for _, e := range entries {
		w.number(e.Term)
		w.text(e.Cmd)
	}
}

// sealed: s, and its sum behind it.
func (w *writer) sealed(s string) {
	w.WriteString(s)
	w.number(sum(s))
}

// reader: bytes from which is read, from their beginning on.
type reader struct {
	rest  string
	short bool // fewer were left than were asked for: what was answered then is nothing
	wrong bool // behind some stood another sum than theirs
}

// bytes: the next n of them.
func (r *reader) bytes(n uint64) string {
	if r.short || n > uint64(len(r.rest)) {
		r.short = true
		return ""
	}
	s := r.rest[:n]
	r.rest = r.rest[n:]
	return s
}

// number: that of the next bytes.
func (r *reader) number() uint64 {
	n := uint64(0)
	for _, b := range []byte(r.bytes(numLen)) {
		n = n<<8 | uint64(b)
	}
	return n
}

// text: the next one, in memory of its own.
func (r *reader) text() string {
	return strings.Clone(r.bytes(r.number()))
}

// entries: all that are left.
func (r *reader) entries() []api.Entry {
	var out []api.Entry
	for r.rest != "" && !r.short {
		out = append(out, api.Entry{Term: r.number(), Cmd: r.text()})
	}
	return out
}

// sealed: the next n bytes, behind which their sum stands.
func (r *reader) sealed(n uint64) string {
	s := r.bytes(n)
	mark := r.number()
	r.wrong = r.wrong || !r.short && mark != sum(s)
	return s
}

// record: the kind of the next record, and its body.
func (r *reader) record() (byte, string) {
	head := r.sealed(headLen)
	if r.short || r.wrong {
		return 0, ""
	}
	h := reader{rest: head[1:]}
	return head[0], r.sealed(h.number())
}

// ended: whether all was there that was asked for, and no more.
func (r *reader) ended() bool {
	return r.rest == "" && !r.short
}
