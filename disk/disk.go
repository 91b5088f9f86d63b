// Package disk: see shared/doc/07-disk.md.
package disk

import (
	"vidimus/api"
)

// Disk: its fields are yours to choose.
type Disk struct{}

func New() (r0 *Disk)                           { return }
func (d *Disk) Append(s string) (r0 api.Errno)  { return }
func (d *Disk) Sync() (r0 api.Errno)            { return }
func (d *Disk) Swap(s string) (r0 api.Errno)    { return }
func (d *Disk) Read() (r0 string, r1 api.Errno) { return }
func (d *Disk) Waits() (r0 int)                 { return }
func (d *Disk) Fuel(n int)                      {}
func (d *Disk) Down() (r0 bool)                 { return }
func (d *Disk) Crash(keep int)                  {}
