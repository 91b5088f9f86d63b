// Package vkv is a map at somebody else's, whom one needn't trust: see shared/doc/14-vkv.md.
package vkv

import (
	"vidimus/api"
	"vidimus/disk"
	"vidimus/part"
)

// Client: who it is, what stands on its disk, what is pending, and what it was shown.
type Client struct {
	disk *disk.Disk
	key  string
	who  uint64
	kept
	count   uint64       // how many commands there were in this life
	pending command      // the zero command: nothing
	view    *part.Part   // nil: there is none; its root is the floor's
	refused []api.Header // those that follow the floor; of others no chain from there on could have one
	alarmed bool
	down    bool // its disk was down once: it stays so
}

// Open: the client that stands on the disk, in a new life.
func Open(d *disk.Disk, key string, number, who uint64) (*Client, api.Errno) {
	s, err := d.Read()
	if err != api.OK {
		return nil, api.ErrDown
	}
	k, ok := recall(s, key, number)
	if !ok {
		return nil, api.ErrLost
	}
	k.life++
	if d.Swap(k.bytes()) != api.OK {
		return nil, api.ErrDown
	}
	return &Client{disk: d, key: key, who: who, kept: k}, api.OK
}

// Get: the value at key, and whether there is one, by the view.
func (c *Client) Get(key string) (string, bool, api.Errno) {
	if c == nil {
		return "", false, api.ErrDown
	}
	val, there, known := c.view.Get(key)
	if !known {
		return "", false, api.ErrArg
	}
	return val, there, api.OK
}

// Under: the pairs whose keys have so many first bits of key, rising, by the view.
func (c *Client) Under(key string, bits int) ([]api.Pair, api.Errno) {
	if c == nil {
		return nil, api.ErrDown
	}
	pairs, known := c.view.Under(key, bits)
	if !known {
		return nil, api.ErrArg
	}
	return pairs, api.OK
}

// Floor: its floor.
func (c *Client) Floor() api.Signed {
	if c == nil {
		return api.Signed{}
	}
	return c.floor
}

// Life: its life.
func (c *Client) Life() uint64 {
	if c == nil {
		return 0
	}
	return c.life
}

// Alarmed: whether it was told what no honest shard tells.
func (c *Client) Alarmed() bool {
	return c != nil && c.alarmed
}

// Down: whether it is down. Once it was seen to be, it stays so: behind a crash the disk is opened anew.
func (c *Client) Down() bool {
	if c == nil {
		return true
	}
	c.down = c.down || c.disk.Down()
	return c.down
}

// works: OK, if it does anything still.
func (c *Client) works() api.Errno {
	switch {
	case c.Down():
		return api.ErrDown
	case c.alarmed:
		return api.ErrTamper
	}
	return api.OK
}

// move: the floor is that header, surely, and then the view that part: by a floor that a crash could take back nothing is to be read.
func (c *Client) move(to api.Signed, view *part.Part) api.Errno {
	if to != c.floor {
		next := kept{floor: to, life: c.life}
		if c.disk.Swap(next.bytes()) != api.OK {
			c.down = true
			return api.ErrDown
		}
		c.kept, c.refused = next, nil
	}
	c.end(view)
	return api.OK
}

// alarm: it is alarmed, and does nothing any more.
func (c *Client) alarm() api.Errno {
	c.alarmed = true
	c.end(nil)
	return api.ErrTamper
}

// end: nothing is pending any more, and that is the view.
func (c *Client) end(view *part.Part) {
	c.pending, c.view = command{}, view
}
