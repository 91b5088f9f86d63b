package disk

import (
	"math"
	"strings"
	"testing"
	"unsafe"

	"vidimus/api"
)

// right: a call answered what the chapter asks for.
func right(t *testing.T, got, want api.Errno) {
	t.Helper()
	if got != want {
		t.Errorf("error %d; asked for %d", got, want)
	}
}

// up: the disk is up, these are its bytes, and so many of them wait.
func up(t *testing.T, d *Disk, want string, waits int) {
	t.Helper()
	if s, e := d.Read(); s != want || e != api.OK {
		t.Errorf("Read: %d bytes, %.40q, %d; asked for %d: %.40q", len(s), s, e, len(want), want)
	}
	if n := d.Waits(); n != waits {
		t.Errorf("%d wait; asked for %d", n, waits)
	}
	if d.Down() {
		t.Error("down")
	}
}

// down: the disk is down, so many bytes wait, and it refuses each call.
func down(t *testing.T, d *Disk, waits int) {
	t.Helper()
	for range 2 {
		if !d.Down() {
			t.Error("up")
		}
		right(t, d.Append("more"), api.ErrDown)
		right(t, d.Append(""), api.ErrDown)
		right(t, d.Sync(), api.ErrDown)
		right(t, d.Swap("other"), api.ErrDown)
		right(t, d.Swap(""), api.ErrDown)
		if s, e := d.Read(); s != "" || e != api.ErrDown {
			t.Errorf("Read: %q, %d", s, e)
		}
		if n := d.Waits(); n != waits {
			t.Errorf("%d wait; asked for %d", n, waits)
		}
	}
}

// made: a disk with these bytes sure, and these behind them that wait.
func made(t *testing.T, sure, wait string) *Disk {
	t.Helper()
	d := New()
	right(t, d.Append(sure), api.OK)
	right(t, d.Sync(), api.OK)
	right(t, d.Append(wait), api.OK)
	up(t, d, sure+wait, len(wait))
	return d
}

// fell: such a disk, down for want of a step.
func fell(t *testing.T, sure, wait string) *Disk {
	t.Helper()
	d := made(t, sure, wait)
	d.Fuel(0)
	right(t, d.Sync(), api.ErrDown)
	down(t, d, len(wait))
	return d
}

// P7.1: the chapter's example.
func TestExample(t *testing.T) {
	d := New()
	right(t, d.Append("ab"), api.OK)
	right(t, d.Sync(), api.OK)
	right(t, d.Append("cd"), api.OK)
	d.Crash(1)
	up(t, d, "abc", 0)
}

// P7.1: a new disk has no bytes, is up, and does any number of steps; so is one that nobody made.
func TestNew(t *testing.T) {
	for _, d := range []*Disk{New(), new(Disk)} {
		up(t, d, "", 0)
		right(t, d.Sync(), api.OK)
		up(t, d, "", 0)
		d.Crash(3)
		up(t, d, "", 0)
		for range 10000 {
			right(t, d.Append("x"), api.OK)
			right(t, d.Sync(), api.OK)
			right(t, d.Swap("y"), api.OK)
		}
		up(t, d, "y", 0)
	}
}

// P7.1: a disk without bytes, through each call.
func TestNoByte(t *testing.T) {
	calls := []func(*Disk) api.Errno{
		func(d *Disk) api.Errno { return d.Append("") },
		func(d *Disk) api.Errno { return d.Swap("") },
		(*Disk).Sync,
	}
	for _, call := range calls {
		for _, keep := range []int{-1, 0, 1, math.MaxInt} {
			d := New()
			right(t, call(d), api.OK)
			up(t, d, "", 0)
			d.Crash(keep)
			up(t, d, "", 0)
			d.Fuel(0)
			up(t, d, "", 0)
			right(t, call(d), api.ErrDown)
			down(t, d, 0)
			d.Crash(keep)
			up(t, d, "", 0)
		}
	}
}

// P7.1, R2: a nil disk, whatever is asked for.
func TestNil(t *testing.T) {
	var none *Disk
	for _, n := range []int{0, 1, -1, 100, math.MaxInt, math.MinInt} {
		down(t, none, 0)
		none.Fuel(n)
		down(t, none, 0)
		none.Crash(n)
		down(t, none, 0)
	}
}

// P7.1: what is appended waits behind all, whatever its bytes, the empty text too.
func TestAppend(t *testing.T) {
	d := New()
	all := ""
	for _, s := range []string{"ab", "", "\x00", "", "ä\xff\xfe", "\n", "ab", strings.Repeat("z", 100000), ""} {
		right(t, d.Append(s), api.OK)
		all += s
		up(t, d, all, len(all))
	}
	d.Crash(0)
	up(t, d, "", 0)
}

// P7.1: Sync makes all sure, however many pieces wait; where nothing waits it leaves all as it is.
func TestSync(t *testing.T) {
	d := New()
	for range 2 {
		right(t, d.Sync(), api.OK)
		up(t, d, "", 0)
	}
	right(t, d.Append("ab"), api.OK)
	right(t, d.Append("c"), api.OK)
	up(t, d, "abc", 3)
	for range 3 {
		right(t, d.Sync(), api.OK)
		up(t, d, "abc", 0)
	}
	right(t, d.Append("d"), api.OK)
	up(t, d, "abcd", 1)
	right(t, d.Sync(), api.OK)
	d.Crash(0)
	up(t, d, "abcd", 0)
}

// P7.1, P7.2: behind Swap just its text is there, and sure, over bytes that are sure, over ones that wait, over none.
func TestSwap(t *testing.T) {
	for _, sure := range []string{"", "a", "sure"} {
		for _, wait := range []string{"", "w", "waits"} {
			for _, s := range []string{"", "n", "\x00\xff", "what is longer than all"} {
				for _, keep := range []int{-1, 0, 1, len(wait), math.MaxInt} {
					d := made(t, sure, wait)
					right(t, d.Swap(s), api.OK)
					up(t, d, s, 0)
					d.Crash(keep)
					up(t, d, s, 0)
				}
			}
		}
	}
}

// P7.1: behind a Swap what is appended waits behind its text.
func TestAppendBehindSwap(t *testing.T) {
	d := made(t, "some sure bytes", "and some that wait")
	right(t, d.Swap("new"), api.OK)
	right(t, d.Append("er"), api.OK)
	up(t, d, "newer", 2)
	d.Crash(1)
	up(t, d, "newe", 0)
	right(t, d.Swap(""), api.OK)
	right(t, d.Append("x"), api.OK)
	up(t, d, "x", 1)
	right(t, d.Swap("y"), api.OK)
	up(t, d, "y", 0)
}

// P7.1, P7.2, R6: a crash keeps none, some, all and more than all of what waits, and none of a keep below 0, of a disk that is up and of one that is down.
func TestCrashKeeps(t *testing.T) {
	kept := []struct {
		keep, n int
	}{
		{math.MinInt, 0}, {math.MinInt + 1, 0}, {-5, 0}, {-4, 0}, {-1, 0},
		{0, 0}, {1, 1}, {2, 2}, {3, 3}, {4, 4},
		{5, 4}, {8, 4}, {100, 4}, {math.MaxInt - 4, 4}, {math.MaxInt - 1, 4}, {math.MaxInt, 4},
	}
	for _, build := range []func(*testing.T, string, string) *Disk{made, fell} {
		for _, sure := range []string{"", "a", "sure bytes"} {
			for _, k := range kept {
				d := build(t, sure, "wait")
				d.Crash(k.keep)
				want := sure + "wait"[:k.n]
				up(t, d, want, 0)
				d.Crash(0)
				up(t, d, want, 0)
				right(t, d.Append("!"), api.OK)
				up(t, d, want+"!", 1)
			}
			d := build(t, sure, "")
			d.Crash(2)
			up(t, d, sure, 0)
		}
	}
}

// P7.1: what a crash tore off doesn't come back, whatever is appended later.
func TestGoneIsGone(t *testing.T) {
	d := made(t, "ab", "cdefgh")
	d.Crash(1)
	right(t, d.Append("x"), api.OK)
	up(t, d, "abcx", 1)
	d.Crash(100)
	up(t, d, "abcx", 0)
	right(t, d.Append("yz"), api.OK)
	d.Crash(1)
	right(t, d.Append(""), api.OK)
	up(t, d, "abcxy", 0)
}

// steps: the calls that take a step each; of them those that wouldn't change anything, too.
func steps() []func(*Disk) api.Errno {
	return []func(*Disk) api.Errno{
		func(d *Disk) api.Errno { return d.Append("one") },
		func(d *Disk) api.Errno { return d.Append("") },
		func(d *Disk) api.Errno { return d.Sync() },
		func(d *Disk) api.Errno { return d.Sync() },
		func(d *Disk) api.Errno { return d.Swap("two") },
		func(d *Disk) api.Errno { return d.Swap("") },
	}
}

// P7.1: with a limit of no step, of one and of several just so many are done, whichever they are.
func TestLimit(t *testing.T) {
	all := steps()
	for limit := range 20 {
		for first := range all {
			d := New()
			d.Fuel(limit)
			for i := range limit {
				right(t, all[(first+i)%len(all)](d), api.OK)
				if d.Down() {
					t.Fatalf("down behind %d steps of %d", i+1, limit)
				}
			}
			waits := d.Waits()
			s, _ := d.Read()
			right(t, all[(first+limit)%len(all)](d), api.ErrDown)
			down(t, d, waits)
			d.Crash(math.MaxInt)
			up(t, d, s, 0)
		}
	}
}

// P7.1, R3: a step that finds none left does nothing but bring the disk down: what was sure is so, what waited waits.
func TestStepThatFindsNoneLeft(t *testing.T) {
	for _, step := range steps() {
		for keep := range 5 {
			d := made(t, "sure", "wait")
			d.Fuel(0)
			up(t, d, "surewait", 4)
			right(t, step(d), api.ErrDown)
			down(t, d, 4)
			d.Crash(keep)
			up(t, d, "sure"+"wait"[:keep], 0)
			right(t, step(d), api.OK)
		}
	}
}

// P7.1: Read, Waits, Down and Fuel itself are no steps: they take none, and don't bring the disk down.
func TestWhatIsNoStep(t *testing.T) {
	d := made(t, "sure", "wait")
	d.Fuel(1)
	for range 10 {
		up(t, d, "surewait", 4)
	}
	right(t, d.Append("s"), api.OK)
	for range 10 {
		up(t, d, "surewaits", 5)
	}
	for range 10 {
		d.Fuel(0)
		up(t, d, "surewaits", 5)
	}
	right(t, d.Sync(), api.ErrDown)
	down(t, d, 5)
}

// goes: the disk does just n more steps, then none.
func goes(t *testing.T, d *Disk, n int) {
	t.Helper()
	for range n {
		right(t, d.Append(""), api.OK)
	}
	right(t, d.Append(""), api.ErrDown)
	if !d.Down() {
		t.Error("up")
	}
}

// P7.1: a limit set again while the disk is up stands in the place of the one before, whatever of that is left.
func TestLimitAgainWhileUp(t *testing.T) {
	limits := []struct {
		before, done int
	}{
		{0, 0}, {1, 0}, {1, 1}, {2, 1}, {2, 2}, {7, 2}, {-1, 2}, {math.MaxInt, 2}, {math.MinInt, 2},
	}
	for _, l := range limits {
		for _, n := range []int{0, 1, 2, 7} {
			d := New()
			d.Fuel(l.before)
			for range l.done {
				right(t, d.Sync(), api.OK)
			}
			d.Fuel(n)
			goes(t, d, n)
		}
	}
}

// P7.1, R6: with a limit below 0 the disk does any number of steps, whatever the limit was.
func TestNoLimit(t *testing.T) {
	for _, before := range []int{0, 1, 5, -1, math.MaxInt} {
		for _, n := range []int{-1, -2, -100, math.MinInt, math.MinInt + 1} {
			d := New()
			d.Fuel(before)
			d.Fuel(n)
			for range 1000 {
				right(t, d.Append("x"), api.OK)
				right(t, d.Sync(), api.OK)
			}
			up(t, d, strings.Repeat("x", 1000), 0)
			d.Fuel(2)
			goes(t, d, 2)
		}
	}
}

// P7.1: a great limit isn't one that is met.
func TestGreatLimit(t *testing.T) {
	for _, n := range []int{10000, math.MaxInt32, math.MaxInt} {
		d := New()
		d.Fuel(n)
		for range 10000 {
			right(t, d.Append("x"), api.OK)
		}
		up(t, d, strings.Repeat("x", 10000), 10000)
	}
}

// P7.1: a limit set while the disk is down doesn't bring it up, and is gone behind the crash that does.
func TestLimitWhileDown(t *testing.T) {
	for _, n := range []int{0, 1, 5, -1, math.MaxInt, math.MinInt} {
		d := fell(t, "sure", "wait")
		for range 3 {
			d.Fuel(n)
			down(t, d, 4)
		}
		d.Crash(2)
		up(t, d, "surewa", 0)
		for range 100 {
			right(t, d.Append(""), api.OK)
			right(t, d.Sync(), api.OK)
		}
		d.Fuel(1)
		goes(t, d, 1)
	}
}

// P7.1: behind a crash there is no limit, also of a disk that was up, with steps left or without.
func TestCrashEndsLimit(t *testing.T) {
	for _, n := range []int{0, 1, 3} {
		d := made(t, "sure", "wait")
		d.Fuel(n)
		d.Crash(0)
		up(t, d, "sure", 0)
		for range 100 {
			right(t, d.Append("."), api.OK)
		}
		up(t, d, "sure"+strings.Repeat(".", 100), 100)
	}
}

// R7: two disks don't know one another.
func TestTwoDisks(t *testing.T) {
	a, b := New(), New()
	right(t, a.Append("a"), api.OK)
	up(t, b, "", 0)
	right(t, b.Swap("b"), api.OK)
	a.Fuel(0)
	right(t, a.Sync(), api.ErrDown)
	up(t, b, "b", 0)
	right(t, b.Append("bb"), api.OK)
	a.Crash(1)
	up(t, a, "a", 0)
	up(t, b, "bbb", 2)
}

// R4: a disk keeps none of the memory that is handed in.
func TestKeepsNothing(t *testing.T) {
	d := New()
	for _, put := range []func(string) api.Errno{d.Append, d.Swap} {
		b := []byte("some bytes")
		right(t, put(unsafe.String(&b[0], len(b))), api.OK)
		clear(b)
		up(t, d, "some bytes", d.Waits())
	}
}

// R4: what was read stays as it was read, whatever is done later.
func TestReadIsOwn(t *testing.T) {
	d := made(t, "sure", "wait")
	s, _ := d.Read()
	d.Crash(0)
	right(t, d.Append("----"), api.OK)
	other, _ := d.Read()
	right(t, d.Swap("........"), api.OK)
	if s != "surewait" || other != "sure----" {
		t.Errorf("%q, %q", s, other)
	}
}
