// Package proxy: see shared/doc/20-proxy.md.
package proxy

import (
	"vidimus/api"
	"vidimus/cipher"
	"vidimus/disk"
	"vidimus/vkv"
)

// Proxy: its fields are yours to choose.
type Proxy struct{}

func Open(who uint64, disks []*disk.Disk, key string, c cipher.Cipher) (r0 *Proxy, r1 api.Errno) {
	return
}
func (p *Proxy) Start(text string) (r0 api.Errno)              { return }
func (p *Proxy) Out() (r0 int, r1 string, r2 bool)             { return }
func (p *Proxy) Heard(shard int, answer string) (r0 api.Errno) { return }
func (p *Proxy) Result() (r0 api.Result, r1 bool)              { return }
func (p *Proxy) At() (r0 int, r1 uint64)                       { return }
func (p *Proxy) Stamp() (r0 uint64)                            { return }
func (p *Proxy) Client(shard int) (r0 *vkv.Client)             { return }
func (p *Proxy) Alarmed() (r0 bool)                            { return }
func (p *Proxy) Down() (r0 bool)                               { return }
func Shard(place string, n int) (r0 int)                       { return }
