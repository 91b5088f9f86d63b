// Package watch: see shared/doc/25-watch.md.
package watch

import (
	"vidimus/api"
)

// Watch: its fields are yours to choose.
type Watch struct{}

func New(key string) (r0 *Watch)                                       { return }
func (w *Watch) Tell(who uint64, b api.Beacon)                         {}
func (w *Watch) Next(shard uint64) (r0 uint64, r1 api.Beacon, r2 bool) { return }
func (w *Watch) Settle(floor api.Signed, l []api.Signed) (r0 bool)     { return }
func (w *Watch) Waits() (r0 int)                                       { return }
func (w *Watch) Alarmed() (r0 bool)                                    { return }
