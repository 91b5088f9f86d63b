package vkv

import (
	"slices"

	"vidimus/api"
	"vidimus/header"
	"vidimus/part"
	"vidimus/shard"
)

// command: its bytes, its serial, and what is made of an answer to that.
type command struct {
	text   string
	serial uint64
	asked  request
}

// request: what a command asks for. It hears an answer to it.
type request interface {
	hear(c *Client, a api.Answer) api.Errno
}

// look: for these keys and prefixes.
type look struct {
	keys  []string
	under []api.Prefix
}

// swap: of the floor for the next header, whose map that part is of.
type swap struct {
	next api.Signed
	view *part.Part
}

// Look: the command that asks for keys and prefixes, and for the headers behind the floor.
func (c *Client) Look(keys []string, under []api.Prefix) (string, api.Errno) {
	if err := c.free(); err != api.OK {
		return "", err
	}
	if !all(keys, isKey) || !all(under, isPrefix) {
		return "", api.ErrArg
	}
	text := shard.Look(c.who, c.serial(), c.floor.Header.Seq, keys, under)
	return c.ask(text, look{keys: slices.Clone(keys), under: slices.Clone(under)})
}

// Swap: the command for the puts, in order, and then the deletes, on the map that the floor tells.
func (c *Client) Swap(puts []api.Pair, deletes []string, stamp uint64) (string, api.Errno) {
	if err := c.free(); err != api.OK {
		return "", err
	}
	view, ok := edited(c.view, puts, deletes)
	if !ok {
		return "", api.ErrArg
	}
	next, ok := header.Next(c.key, c.floor, view.Root(), c.who, stamp)
	if !ok {
		return "", api.ErrArg
	}
	text := shard.Swap(c.who, c.serial(), header.Hash(c.floor.Header), next, puts, deletes)
	return c.ask(text, swap{next: next, view: view})
}

// Pending: the command that is, and whether there is one.
func (c *Client) Pending() (string, bool) {
	if c == nil || c.pending.asked == nil {
		return "", false
	}
	return c.pending.text, true
}

// Heard: what comes of an answer.
func (c *Client) Heard(answer string) api.Errno {
	if err := c.works(); err != api.OK {
		return err
	}
	if c.pending.asked == nil {
		return api.ErrArg
	}
	a, ok := shard.Answer(answer)
	switch {
	case !ok:
		return c.alarm()
	case a.Serial != c.pending.serial:
		return api.ErrLost
	}
	return c.pending.asked.hear(c, a)
}

// free: OK, if a command may be made.
func (c *Client) free() api.Errno {
	if err := c.works(); err != api.OK {
		return err
	}
	if c.pending.asked != nil {
		return api.ErrArg
	}
	return api.OK
}

// serial: that of the next command.
func (c *Client) serial() uint64 {
	return c.life<<countBits + c.count + 1
}

// ask: that command is pending. One without bytes would have too many.
func (c *Client) ask(text string, asked request) (string, api.Errno) {
	if text == "" {
		return "", api.ErrArg
	}
	c.pending = command{text: text, serial: c.serial(), asked: asked}
	c.count++
	return text, api.OK
}

// hear: the floor is the last header that was told, and the view the part, if both are what was asked for.
func (l look) hear(c *Client, a api.Answer) api.Errno {
	last, ok := header.Chain(c.key, c.floor, a.Headers)
	if a.What != api.Seen || !ok || slices.ContainsFunc(a.Headers, c.refuses) {
		return c.alarm()
	}
	view, ok := part.Open(last.Header.Root, a.Text)
	if !ok || !l.told(view) {
		return c.alarm()
	}
	return c.move(last, view)
}

// hear: the swap was done, or the floor wasn't the shard's last header any more.
func (s swap) hear(c *Client, a api.Answer) api.Errno {
	switch a.What {
	case api.Done:
		return c.move(s.next, s.view)
	case api.Other:
		c.refused = append(c.refused, s.next.Header)
		c.end(nil)
		return api.ErrConflict
	}
	return c.alarm()
}

// refuses: whether that is the header of a swap that wasn't done, by what was answered: who shows it answered falsely.
func (c *Client) refuses(s api.Signed) bool {
	return slices.Contains(c.refused, s.Header)
}

// told: whether all that was asked for is known by the part.
func (l look) told(p *part.Part) bool {
	return tells(p, l.keys) && all(l.under, func(u api.Prefix) bool {
		_, known := p.Under(u.Key, u.Bits)
		return known
	})
}

// tells: whether the part tells what is at each of the keys.
func tells(p *part.Part, keys []string) bool {
	return all(keys, func(key string) bool {
		_, _, known := p.Get(key)
		return known
	})
}

// edited: the part with the puts, in order, and then without the deletes, and whether it tells that.
func edited(p *part.Part, puts []api.Pair, deletes []string) (*part.Part, bool) {
	ok := p != nil
	for i := 0; ok && i < len(puts); i++ {
		p, ok = p.Put(puts[i].Key, puts[i].Val)
	}
	if !ok || !all(deletes, isKey) || !tells(p, deletes) {
		return nil, false
	}
	for _, key := range deletes {
		// What isn't there, or not any more, is left alone: the part may have told that ahead of the deletes, and not tell it any more.
		if _, there, _ := p.Get(key); there {
			p, _ = p.Delete(key)
		}
	}
	return p, true
}

// all: whether each of them is so.
func all[T any](l []T, so func(T) bool) bool {
	return !slices.ContainsFunc(l, func(x T) bool { return !so(x) })
}

// isKey: whether it has 32 bytes.
func isKey(s string) bool {
	return len(s) == api.HashLen
}

// isPrefix: whether it is a key, and a number of its bits.
func isPrefix(p api.Prefix) bool {
	return isKey(p.Key) && p.Bits >= 0 && p.Bits <= api.KeyBits
}
