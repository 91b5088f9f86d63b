package vkv

import (
	"vidimus/api"
	"vidimus/codec"
	"vidimus/header"
)

const (
	countBits = 32                    // of a serial, behind the life
	lastLife  = 1<<(64-countBits) - 1 // behind it there are none of which serials could be made
)

// kept: what stands on a client's disk, as the list of both.
type kept struct {
	life  uint64
	floor api.Signed
}

// bytes: what it is on a disk.
func (k kept) bytes() string {
	s, _ := codec.Write(codec.L(codec.N(k.life), header.Node(k.floor)))
	return s
}

// recall: what a client of that shard left on a disk with these bytes, and whether it is some client's.
func recall(s, key string, number uint64) (kept, bool) {
	if s == "" {
		return kept{floor: header.First(key, number)}, true
	}
	n, ok := codec.Read(s)
	if !ok || len(n.Kids) != 2 || n.Kids[0].Kind != api.Num {
		return kept{}, false
	}
	floor, ok := header.Of(n.Kids[1])
	k := kept{life: n.Kids[0].N, floor: floor}
	if !ok || k.life == 0 || k.life >= lastLife {
		return kept{}, false
	}
	return k, floor.Header.Shard == number && header.Check(key, floor)
}
