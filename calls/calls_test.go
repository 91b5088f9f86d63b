// Package calls holds all layers' calls against the list that the chapters make.
package calls

import (
	"math"
	"reflect"
	"runtime"
	"testing"

	"vidimus/group"
)

// still is a machine that does nothing.
type still struct{}

func (still) Apply(string) string { return "" }
func (still) State() string       { return "" }
func (still) Restore(string) bool { return true }

// odd: what numbers and texts are, one value of each for a call.
type odd struct {
	name string
	n    int64
	u    uint64
	s    string
	made bool // whether a pointer leads to something
}

func odds() []odd {
	return []odd{
		{name: "zero"},
		{name: "one", n: 1, u: 1, s: "x", made: true},
		{name: "below", n: -1, u: math.MaxUint64 - 1, s: "\xff\x00"},
		{name: "lowest", n: math.MinInt64, u: math.MaxUint64, s: "'", made: true},
		{name: "highest", n: math.MaxInt64, u: 1 << 63, s: string(make([]byte, 32)), made: true},
	}
}

// value: one of the type, filled up with what x says.
func (x odd) value(t reflect.Type) reflect.Value {
	v := reflect.New(t).Elem()
	switch t.Kind() {
	case reflect.Bool:
		v.SetBool(x.made)
	case reflect.Int:
		v.SetInt(x.n)
	case reflect.Uint8, reflect.Uint64:
		v.SetUint(x.u & (math.MaxUint64 >> (64 - t.Bits())))
	case reflect.String:
		v.SetString(x.s)
	case reflect.Pointer:
		if x.made {
			v.Set(reflect.New(t.Elem()))
		}
	case reflect.Func:
		v.Set(reflect.ValueOf(func() group.Machine { return still{} }))
	case reflect.Struct:
		x.fill(v)
	}
	return v
}

// fill: the fields that can be set, and of those the lists with one item; lists of the same struct stay empty.
func (x odd) fill(v reflect.Value) {
	for i := range v.NumField() {
		f := v.Field(i)
		if !f.CanSet() {
			continue
		}
		if f.Kind() != reflect.Slice {
			f.Set(x.value(f.Type()))
		} else if x.made && f.Type().Elem() != v.Type() {
			f.Set(reflect.Append(f, x.value(f.Type().Elem())))
		}
	}
}

// arguments: of the call f; its lists have one item, or none.
func (x odd) arguments(f reflect.Type) []reflect.Value {
	var out []reflect.Value
	for i := range f.NumIn() {
		t := f.In(i)
		switch {
		case t.Kind() != reflect.Slice:
			out = append(out, x.value(t))
		case f.IsVariadic() && i == f.NumIn()-1:
			out = append(out, x.value(t.Elem()))
		case x.made:
			out = append(out, reflect.Append(reflect.Zero(t), x.value(t.Elem())))
		default:
			out = append(out, reflect.Zero(t))
		}
	}
	return out
}

// P0: no listed call panics, and each ends, whatever it is given.
func TestCallsEnd(t *testing.T) {
	for _, call := range listed() {
		f := reflect.ValueOf(call)
		name := runtime.FuncForPC(f.Pointer()).Name()
		for _, x := range odds() {
			func() {
				defer func() {
					if r := recover(); r != nil {
						t.Errorf("%s of %s panics: %v", name, x.name, r)
					}
				}()
				f.Call(x.arguments(f.Type()))
			}()
		}
	}
}
