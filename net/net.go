// Package net: see shared/doc/10-net.md.
package net

import (
	"vidimus/api"
)

// Net: its fields are yours to choose.
type Net struct{}

func New() (r0 *Net)                                     { return }
func (n *Net) Put(l ...api.Msg)                          {}
func (n *Net) Len() (r0 int)                             { return }
func (n *Net) At(i int) (r0 api.Msg, r1 uint64, r2 bool) { return }
func (n *Net) Take(i int) (r0 api.Msg, r1 bool)          { return }
func (n *Net) Twice(i int) (r0 bool)                     { return }
func (n *Net) Drop(i int) (r0 bool)                      { return }
func (n *Net) To(node int) (r0 []int)                    { return }
func Bytes(m api.Msg) (r0 string)                        { return }
func Read(s string) (r0 api.Msg, r1 bool)                { return }
