package tape

import (
	"encoding/binary"
	"math"
	"math/big"
	"math/rand"
	"strings"
	"sync"
	"testing"
	"unsafe"

	"vidimus/api"
)

// most: the greatest number below which one may be drawn; as an int64, for where an int is shorter.
const most = int64(1) << 31

// numbers: each as 8 bytes, the highest first.
func numbers(all ...uint64) string {
	var out []byte
	for _, n := range all {
		out = binary.BigEndian.AppendUint64(out, n)
	}
	return string(out)
}

// counted: the numbers below n, each as 8 bytes.
func counted(n int) string {
	all := make([]uint64, n)
	for i := range all {
		all[i] = uint64(i)
	}
	return numbers(all...)
}

// take: Take(n) answers want and err.
func take(t *testing.T, x *Tape, n int, want string, err api.Errno) {
	t.Helper()
	if got, e := x.Take(n); got != want || e != err {
		t.Errorf("Take(%d): %d bytes, %.40q, %d; asked for %d: %.40q, %d", n, len(got), got, e, len(want), want, err)
	}
}

// below: Below(m) answers want and err.
func below(t *testing.T, x *Tape, m int, want int, err api.Errno) {
	t.Helper()
	if got, e := x.Below(m); got != want || e != err {
		t.Errorf("Below(%d): %d, %d; asked for %d, %d", m, got, e, want, err)
	}
}

// at: so many bytes were taken, and so many are left.
func at(t *testing.T, x *Tape, taken, left int) {
	t.Helper()
	if x.Taken() != taken || x.Left() != left {
		t.Errorf("%d taken, %d left; asked for %d, %d", x.Taken(), x.Left(), taken, left)
	}
}

// P4.1: the chapter's example.
func TestExample(t *testing.T) {
	x := New("abc")
	take(t, x, 2, "ab", api.OK)
	take(t, x, 2, "", api.ErrEntropy)
	take(t, x, 1, "c", api.OK)
	at(t, x, 3, 0)
}

// P4.1: of a new tape none were taken, whatever its bytes.
func TestNew(t *testing.T) {
	for _, s := range []string{"", "\x00", "a", "ä\xff\xfe", strings.Repeat("x", 100000)} {
		x := New(s)
		at(t, x, 0, len(s))
		take(t, x, len(s), s, api.OK)
		at(t, x, len(s), 0)
	}
}

// P4.1, R2, R1: of a nil tape, whatever is asked for.
func TestNil(t *testing.T) {
	var none *Tape
	for _, n := range []int{0, 1, 2, 8, -1, math.MaxInt, math.MinInt, 100} {
		take(t, none, n, "", api.ErrEntropy)
		below(t, none, n, 0, api.ErrEntropy)
		at(t, none, 0, 0)
	}
}

// P4.1: a tape of no byte, made by New or by nobody.
func TestNoByte(t *testing.T) {
	for _, x := range []*Tape{New(""), new(Tape)} {
		for range 2 {
			take(t, x, 0, "", api.OK)
			take(t, x, 1, "", api.ErrEntropy)
			take(t, x, math.MaxInt, "", api.ErrEntropy)
			take(t, x, -1, "", api.ErrArg)
			below(t, x, 1, 0, api.ErrEntropy)
			below(t, x, 0, 0, api.ErrArg)
			at(t, x, 0, 0)
		}
	}
}

// P4.1: Take of 0, of one, of all that is left and of one more, at each place of a tape.
func TestTakeAtEachPlace(t *testing.T) {
	s := "vidimus: chance"
	for place := range len(s) + 1 {
		rest := s[place:]
		for n := range len(rest) + 1 {
			x := New(s)
			take(t, x, place, s[:place], api.OK)
			take(t, x, 0, "", api.OK)
			at(t, x, place, len(rest))
			for _, more := range []int{1, 2, 8, 1 << 20, math.MaxInt - len(rest)} {
				take(t, x, len(rest)+more, "", api.ErrEntropy)
			}
			at(t, x, place, len(rest))
			take(t, x, n, rest[:n], api.OK)
			at(t, x, place+n, len(rest)-n)
		}
	}
}

// P4.1: the next 8 bytes as a number, the highest first, modulo m.
func TestBelowKnown(t *testing.T) {
	if math.MaxInt == math.MaxInt32 {
		t.Skip("2^31 is no int here")
	}
	limit := most
	tests := []struct {
		n    uint64
		m    int64
		want int
	}{
		{0, 1, 0}, {1, 1, 0}, {math.MaxUint64, 1, 0},
		{0, 2, 0}, {1, 2, 1}, {math.MaxUint64, 2, 1}, {math.MaxUint64 - 1, 2, 0},
		{258, 100, 58}, {0x0102030405060708, 256, 8}, {0x0102030405060708, 1 << 16, 0x0708},
		{1 << 56, 7, 4}, {0xff << 56, 10, 0}, {1 << 63, 10, 8}, {1 << 63, 3, 2},
		{math.MaxUint64, 10, 5}, {math.MaxUint64, 3, 0}, {math.MaxUint64, 7, 1}, {math.MaxUint64, 1000003, 350686},
		{uint64(limit), limit, 0}, {uint64(limit) - 1, limit, int(limit - 1)}, {uint64(limit) + 5, limit, 5},
		{math.MaxUint64, limit, int(limit - 1)}, {math.MaxUint64, limit - 1, 3}, {1 << 63, limit - 1, 2},
	}
	for _, w := range tests {
		x := New(numbers(w.n) + "z")
		below(t, x, int(w.m), w.want, api.OK)
		at(t, x, 8, 1)
		take(t, x, 1, "z", api.OK)
	}
}

// P4.1: Below of many numbers, of powers of two and of none, held against great numbers' rest.
func TestBelowMany(t *testing.T) {
	r := rand.New(rand.NewSource(4))
	for range 20000 {
		n := r.Uint64() >> r.Intn(64)
		m := 1 + r.Int63n(math.MaxInt32)>>r.Intn(31)
		if r.Intn(4) == 0 {
			m = 1 << r.Intn(31)
		}
		want := new(big.Int).Mod(new(big.Int).SetUint64(n), big.NewInt(m))
		below(t, New(numbers(n)), int(m), int(want.Int64()), api.OK)
	}
}

// P4.1: of one tape one number behind the other, from places that aren't multiples of 8 too.
func TestBelowGoesOn(t *testing.T) {
	x := New("abc" + numbers(11, 12) + "de" + numbers(1013))
	take(t, x, 3, "abc", api.OK)
	below(t, x, 10, 1, api.OK)
	below(t, x, 10, 2, api.OK)
	at(t, x, 19, 10)
	take(t, x, 2, "de", api.OK)
	below(t, x, 1000, 13, api.OK)
	at(t, x, 29, 0)
	below(t, x, 1000, 0, api.ErrEntropy)
}

// P4.1, R3: with seven bytes left, or fewer, nothing is drawn, nor taken; with eight the number is.
func TestBelowNearTheEnd(t *testing.T) {
	for left := range 8 {
		for _, m := range []int{1, 2, 3, 100, math.MaxInt32} {
			s := "0123456789"[:left]
			x := New("some" + s)
			take(t, x, 4, "some", api.OK)
			below(t, x, m, 0, api.ErrEntropy)
			at(t, x, 4, left)
			take(t, x, left, s, api.OK)
		}
	}
	x := New("some" + numbers(77))
	take(t, x, 4, "some", api.OK)
	below(t, x, 10, 7, api.OK)
	at(t, x, 12, 0)
}

// P4.1, R1, R3, R6: numbers that can't be asked for are ErrArg, however much is left, and take nothing.
func TestWrongNumbers(t *testing.T) {
	for _, s := range []string{"", "a", "1234567", numbers(1), numbers(5, 6) + "rest"} {
		x := New(s)
		for _, n := range []int{-1, -2, -8, -len(s), math.MinInt, math.MinInt + 1, math.MinInt32} {
			if n < 0 {
				take(t, x, n, "", api.ErrArg)
			}
		}
		for _, m := range []int{0, -1, -2, -1 << 31, math.MinInt, math.MinInt + 1} {
			below(t, x, m, 0, api.ErrArg)
		}
		for _, m := range []int64{most + 1, most + 2, most << 1, most<<1 + 1, math.MaxInt64 - 1, math.MaxInt64} {
			if m <= math.MaxInt {
				below(t, x, int(m), 0, api.ErrArg)
			}
		}
		at(t, x, 0, len(s))
		take(t, x, len(s), s, api.OK)
	}
}

// P4.1, R3: what is refused leaves the tape as it was: the same calls go on as if it hadn't been asked.
func TestRefusedTakesNothing(t *testing.T) {
	s := "abcd" + numbers(1234) + "efg"
	x := New(s)
	refuse := func(taken int) {
		t.Helper()
		left := len(s) - taken
		take(t, x, left+1, "", api.ErrEntropy)
		take(t, x, -1, "", api.ErrArg)
		below(t, x, 0, 0, api.ErrArg)
		if left < 8 {
			below(t, x, 5, 0, api.ErrEntropy)
		}
		at(t, x, taken, left)
	}
	refuse(0)
	take(t, x, 4, "abcd", api.OK)
	refuse(4)
	below(t, x, 1000, 234, api.OK)
	refuse(12)
	take(t, x, 2, "ef", api.OK)
	refuse(14)
	take(t, x, 1, "g", api.OK)
	refuse(15)
}

// model: a tape as the chapter's words have it.
type model struct {
	rest  string
	taken int
}

func (m *model) take(n int) (string, api.Errno) {
	switch {
	case n < 0:
		return "", api.ErrArg
	case n > len(m.rest):
		return "", api.ErrEntropy
	}
	s := m.rest[:n]
	m.rest = m.rest[n:]
	m.taken += n
	return s, api.OK
}

func (m *model) below(end int) (int, api.Errno) {
	if end < 1 || int64(end) > most {
		return 0, api.ErrArg
	}
	s, err := m.take(8)
	if err != api.OK {
		return 0, err
	}
	n := new(big.Int).SetBytes([]byte(s))
	return int(n.Mod(n, big.NewInt(int64(end))).Int64()), api.OK
}

// alike: a tape and its model answer one call alike, and how far they came; n is what is taken or drawn below.
func alike(t *testing.T, x *Tape, m *model, draw bool, n int) {
	t.Helper()
	if draw {
		want, err := m.below(n)
		below(t, x, n, want, err)
	} else {
		want, err := m.take(n)
		take(t, x, n, want, err)
	}
	at(t, x, m.taken, len(m.rest))
}

// text: n bytes of all kinds.
func text(r *rand.Rand, n int) string {
	b := make([]byte, n)
	r.Read(b)
	return string(b)
}

// asked: a number to be handed in: mostly small, now and then one at or past a limit.
func asked(r *rand.Rand) int {
	switch r.Intn(12) {
	case 0:
		return -r.Intn(4)
	case 1:
		return math.MaxInt32 - r.Intn(3)
	case 2:
		return math.MaxInt - r.Intn(2)
	case 3:
		return int(r.Uint64())
	}
	return r.Intn(20)
}

// P4.1: calls in any order.
func TestAnyOrder(t *testing.T) {
	r := rand.New(rand.NewSource(41))
	for range 3000 {
		s := text(r, r.Intn(120))
		x, m := New(s), &model{rest: s}
		for range 40 {
			alike(t, x, m, r.Intn(3) == 0, asked(r))
		}
	}
}

// P4.2: what is taken, one behind the other, is what the tape begins with, whatever is refused between.
func TestBeginsWith(t *testing.T) {
	r := rand.New(rand.NewSource(42))
	for range 2000 {
		s := text(r, r.Intn(300))
		x := New(s)
		var got strings.Builder
		for range 60 {
			piece, err := x.Take(asked(r))
			if err != api.OK && piece != "" {
				t.Fatalf("%d bytes beside error %d", len(piece), err)
			}
			got.WriteString(piece)
			if x.Taken() != got.Len() || !strings.HasPrefix(s, got.String()) {
				t.Fatalf("%d taken, %d told, or other bytes", x.Taken(), got.Len())
			}
		}
		rest, err := x.Take(x.Left())
		if err != api.OK || got.String()+rest != s {
			t.Fatalf("what was taken isn't the tape, error %d", err)
		}
	}
}

// R7: two tapes of the same bytes don't know one another, and answer the same.
func TestTwoTapes(t *testing.T) {
	s := numbers(3, 14) + "abc"
	x, y := New(s), New(s)
	below(t, x, 10, 3, api.OK)
	below(t, x, 10, 4, api.OK)
	at(t, y, 0, len(s))
	below(t, y, 10, 3, api.OK)
	at(t, x, 16, 3)
	below(t, y, 10, 4, api.OK)
	take(t, y, 3, "abc", api.OK)
	take(t, x, 3, "abc", api.OK)
}

// R4: a tape keeps none of the memory that is handed in.
func TestKeepsNothing(t *testing.T) {
	b := []byte("some bytes")
	x := New(unsafe.String(&b[0], len(b)))
	clear(b)
	take(t, x, 10, "some bytes", api.OK)
}

// R4: what is taken shares no memory with the tape.
func TestTakenIsOwn(t *testing.T) {
	x := New("some bytes")
	for _, n := range []int{4, 6} {
		from := x.Taken()
		got, err := x.Take(n)
		if err != api.OK || unsafe.StringData(got) == unsafe.StringData(x.text[from:]) {
			t.Errorf("error %d, or shared", err)
		}
	}
}

// several: f is done by so many at once, and all have ended.
func several(n int, f func(who int)) {
	var all sync.WaitGroup
	begin := make(chan int)
	for who := range n {
		all.Add(1)
		go func() {
			defer all.Done()
			<-begin
			f(who)
		}()
	}
	close(begin)
	all.Wait()
}

// grab: what one of several gets who takes and draws till there is nothing left: of counted's tape, which numbers, and how often it was told something else than the chapter says.
func grab(x *Tape, r *rand.Rand) (met []int, wrong int) {
	for {
		if r.Intn(3) == 0 {
			n, err := x.Below(1 << 30)
			if err != api.OK {
				return met, wrong
			}
			met = append(met, n)
			continue
		}
		n := 8 * r.Intn(4)
		s, err := x.Take(n)
		if err == api.ErrEntropy && n == 8 {
			return met, wrong
		}
		if err == api.OK && len(s) != n || err == api.ErrEntropy && s != "" || err != api.OK && err != api.ErrEntropy {
			wrong++
		}
		for i := 0; i+8 <= len(s); i += 8 {
			k := int(binary.BigEndian.Uint64([]byte(s[i:])))
			if i > 0 && met[len(met)-1] != k-1 {
				wrong++
			}
			met = append(met, k)
		}
	}
}

// P4.1, P4.2: several take and draw at once: each byte is taken by one alone, none is lost, and each gets the tape's later bytes later.
func TestSeveralAtOnce(t *testing.T) {
	const many, takers = 100000, 8
	x := New(counted(many))
	var met [takers][]int
	var wrong [takers]int
	several(takers, func(who int) {
		met[who], wrong[who] = grab(x, rand.New(rand.NewSource(int64(who))))
	})
	seen := make([]int, many)
	for who := range met {
		if wrong[who] > 0 {
			t.Errorf("%d answered otherwise than the chapter says", wrong[who])
		}
		before := -1
		for _, k := range met[who] {
			if k <= before {
				t.Fatalf("%d behind %d", k, before)
			}
			before = k
			seen[k]++
		}
	}
	for k, n := range seen {
		if n != 1 {
			t.Fatalf("%d was taken %d times", k, n)
		}
	}
	at(t, x, 8*many, 0)
}

// P4.1, R3: who asks for too much at the same time is refused, and hinders nobody who asks for what is there.
func TestRefusedHinderNobody(t *testing.T) {
	const each, takers = 20000, 4
	s := strings.Repeat("x", each*takers)
	x := New(s)
	var failed [2 * takers]int
	several(2*takers, func(who int) {
		for range each {
			want, n := api.OK, 1
			if who >= takers {
				want, n = api.ErrEntropy, len(s)+1
			}
			if _, err := x.Take(n); err != want {
				failed[who]++
			}
		}
	})
	for who, n := range failed {
		if n > 0 {
			t.Errorf("%d of %d: answered otherwise %d times", who, len(failed), n)
		}
	}
	at(t, x, len(s), 0)
}

// P4.1: of several who want the last bytes one alone gets them.
func TestLastBytes(t *testing.T) {
	for range 2000 {
		x := New("lastbyte")
		var got [4]int
		several(len(got), func(who int) {
			if who%2 == 0 {
				if _, err := x.Take(8); err == api.OK {
					got[who] = 1
				}
			} else if _, err := x.Below(9); err == api.OK {
				got[who] = 1
			}
		})
		if n := got[0] + got[1] + got[2] + got[3]; n != 1 {
			t.Fatalf("%d got the last bytes", n)
		}
		at(t, x, 8, 0)
	}
}

// P4.1: while others take, what was taken only grows, and what is left only shrinks, within the tape.
func TestWatchedMeanwhile(t *testing.T) {
	s := strings.Repeat("y", 50000)
	x := New(s)
	var wrong [4]int
	several(len(wrong), func(who int) {
		taken, left := 0, len(s)
		for {
			a, b := x.Taken(), x.Left()
			if a < taken || b > left || a > len(s) || b < 0 || a+b > len(s) {
				wrong[who]++
			}
			taken, left = a, b
			if _, err := x.Take(1); err != api.OK {
				return
			}
		}
	})
	for _, n := range wrong {
		if n > 0 {
			t.Errorf("wrong %d times", n)
		}
	}
}

// P4.1, P4.2: calls in any order, on any bytes: each byte of calls is one, its lowest bit tells whether it draws.
func FuzzTape(f *testing.F) {
	f.Add("abc", []byte{4, 4, 2})
	f.Add(numbers(258)+"abc", []byte{201, 3, 8, 6, 0, 255, 254})
	f.Fuzz(func(t *testing.T, s string, calls []byte) {
		x, m := New(s), &model{rest: s}
		for _, c := range calls {
			n := int(c >> 1)
			switch n {
			case 126:
				n = math.MaxInt32
			case 127:
				n = -1
			}
			alike(t, x, m, c&1 == 1, n)
		}
	})
}

func BenchmarkTake(b *testing.B) {
	x := New(strings.Repeat("x", 1<<24))
	for b.Loop() {
		if _, err := x.Take(16); err != api.OK {
			x = New(x.text)
		}
	}
}

func BenchmarkBelow(b *testing.B) {
	x := New(strings.Repeat("x", 1<<24))
	for b.Loop() {
		if _, err := x.Below(1000); err != api.OK {
			x = New(x.text)
		}
	}
}
