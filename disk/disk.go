// Package disk is a disk of one file, of which a crash tears the end: see shared/doc/07-disk.md.
package disk

import (
	"vidimus/api"
)

// Disk: its bytes, and how it goes on. One of zero values is as New makes it.
type Disk struct {
	bytes   []byte // those that are sure, and behind them those that wait
	sure    int    // how many are sure
	down    bool
	limited bool // whether it does only so many steps still
	steps   int  // how many, if it is limited
}

// New: a disk without bytes, that is up, without a limit of steps.
func New() *Disk {
	return &Disk{}
}

// Append: s waits behind all.
func (d *Disk) Append(s string) api.Errno {
	if !d.step() {
		return api.ErrDown
	}
	d.bytes = append(d.bytes, s...)
	return api.OK
}

// Sync: all is sure.
func (d *Disk) Sync() api.Errno {
	if !d.step() {
		return api.ErrDown
	}
	d.sure = len(d.bytes)
	return api.OK
}

// Swap: just s is there, and sure.
func (d *Disk) Swap(s string) api.Errno {
	if !d.step() {
		return api.ErrDown
	}
	d.bytes = []byte(s)
	d.sure = len(s)
	return api.OK
}

// Read: all bytes, those that wait too.
func (d *Disk) Read() (string, api.Errno) {
	if d.Down() {
		return "", api.ErrDown
	}
	return string(d.bytes), api.OK
}

// Waits: how many bytes wait.
func (d *Disk) Waits() int {
	if d == nil {
		return 0
	}
	return len(d.bytes) - d.sure
}

// Fuel: it does n more steps; any number, if n is below 0. One that is down stays so: only a crash brings it up.
func (d *Disk) Fuel(n int) {
	if d == nil {
		return
	}
	d.limited = n >= 0
	d.steps = max(n, 0)
}

// Down: whether it is down.
func (d *Disk) Down() bool {
	return d == nil || d.down
}

// Crash: of the bytes that wait the first keep ones are sure, the others are gone; it is up, without a limit.
func (d *Disk) Crash(keep int) {
	if d == nil {
		return
	}
	// held against what waits before it is added: sure + keep might be past the greatest number
	d.sure += min(max(keep, 0), d.Waits())
	d.bytes = d.bytes[:d.sure]
	d.down = false
	d.Fuel(-1)
}

// step: whether it does one more step; if none is left, it is down.
func (d *Disk) step() bool {
	if d.Down() {
		return false
	}
	if !d.limited {
		return true
	}
	if d.steps == 0 {
		d.down = true
		return false
	}
	d.steps--
	return true
}
