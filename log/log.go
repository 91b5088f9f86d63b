// Package log: see shared/doc/08-log.md.
package log

import (
	"vidimus/api"
	"vidimus/disk"
)

// Log: its fields are yours to choose.
type Log struct{}

func Open(d *disk.Disk) (r0 *Log, r1 api.Errno)                        { return }
func (l *Log) SetTerm(term uint64, vote int) (r0 api.Errno)            { return }
func (l *Log) Add(behind uint64, entries ...api.Entry) (r0 api.Errno)  { return }
func (l *Log) Compact(index uint64, state string) (r0 api.Errno)       { return }
func (l *Log) Install(index, term uint64, state string) (r0 api.Errno) { return }
func (l *Log) Term() (r0 uint64)                                       { return }
func (l *Log) Vote() (r0 int)                                          { return }
func (l *Log) Base() (r0 uint64, r1 uint64, r2 string)                 { return }
func (l *Log) Last() (r0 uint64)                                       { return }
func (l *Log) At(index uint64) (r0 api.Entry, r1 bool)                 { return }
func (l *Log) TermAt(index uint64) (r0 uint64, r1 bool)                { return }
func (l *Log) Down() (r0 bool)                                         { return }
