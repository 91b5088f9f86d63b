// Package vkv: see shared/doc/14-vkv.md.
package vkv

import (
	"vidimus/api"
	"vidimus/disk"
)

// Client: its fields are yours to choose.
type Client struct{}

func Open(d *disk.Disk, key string, number, who uint64) (r0 *Client, r1 api.Errno) { return }
func (c *Client) Look(keys []string, under []api.Prefix) (r0 string, r1 api.Errno) { return }
func (c *Client) Swap(puts []api.Pair, deletes []string, stamp uint64) (r0 string, r1 api.Errno) {
	return
}
func (c *Client) Pending() (r0 string, r1 bool)                            { return }
func (c *Client) Heard(answer string) (r0 api.Errno)                       { return }
func (c *Client) Get(key string) (r0 string, r1 bool, r2 api.Errno)        { return }
func (c *Client) Under(key string, bits int) (r0 []api.Pair, r1 api.Errno) { return }
func (c *Client) Floor() (r0 api.Signed)                                   { return }
func (c *Client) Life() (r0 uint64)                                        { return }
func (c *Client) Alarmed() (r0 bool)                                       { return }
func (c *Client) Down() (r0 bool)                                          { return }
