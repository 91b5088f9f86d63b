package cipher

import (
	"fmt"
	"math"
	"math/rand"
	"strings"
	"sync"
	"testing"

	"vidimus/api"
	"vidimus/tape"
)

// spots: places of all kinds: keys of maps, and other texts.
func spots() []string {
	p := plain{"master"}
	return []string{p.catalog("t"), p.row("t", number(7)), p.row("u", number(7)), p.entry("t", "a", number(7), number(7)),
		strings.Repeat("\x00", 32), strings.Repeat("\xff", 32), "", "p", "\x00", strings.Repeat("p", 16), strings.Repeat("p", 1000)}
}

// P15.1: the least power of two, from 32 on, that a text fits with its length.
func TestBucket(t *testing.T) {
	for n, want := range map[int]int{
		-1: 0, 0: 32, 1: 32, 28: 32, 29: 64, 60: 64, 61: 128, 124: 128, 125: 256, 252: 256, 253: 512, 508: 512, 509: 1024,
		1020: 1024, 1021: 2048, 2044: 2048, 2045: 4096, 4000: 4096, 4001: 0, 4092: 0, 4093: 0, 1 << 32: 0,
		math.MinInt: 0, math.MaxInt: 0, math.MaxInt - 3: 0, math.MinInt + 4: 0,
	} {
		if got := Bucket(n); got != want {
			t.Errorf("%d: %d; asked for %d", n, got, want)
		}
	}
	for n := -100; n < 10000; n++ {
		if got := Bucket(n); got != plainBucket(n) {
			t.Errorf("%d: %d", n, got)
		}
	}
}

// P15.1: cells that were worked out elsewhere.
func TestCellsKnown(t *testing.T) {
	row := plain{"master"}.row("t", number(7))
	for _, c := range []struct{ master, place, number, text, rest string }{
		{"master", row, "0123456789abcdef", "hello",
			"4e3e0380a695a356d3c6d095919786c46d864256d69049d8264e74de06513e94c930b068637f62a4bdc47f37112730e1"},
		{"", "", strings.Repeat("\xff", 16), "",
			"dd5226f3e7b17b878db2bd36a2ab78c7cf086dec46367bd024ec8e5225b56928c7232f01e25d96ab0e37d1fbeb045e97"},
		{"master", row, strings.Repeat("\x00", 15) + "\x01", strings.Repeat("x", 29),
			"42803bfc71fb441e27e13f0e9256c8c0f3312027c00f003aa1de1691019aba2e5de211b9e54c6ed28f897c49f6b5217bfe0fad84fe1641eef36d04e23b63a9998e8ad10501654f23216e15df739bae9b"},
	} {
		k := New(c.master, tape.New(c.number))
		at(t, c.text, c.number+unhex(c.rest))(k.Seal(c.place, c.text))
		opens(t, c.text, k, c.place, c.number+unhex(c.rest), c.text)
	}
}

// P15.1, P15.2: cells of texts of each length, by the words of the chapter; of one bucket they have one length.
func TestCells(t *testing.T) {
	letters, places := chanceText(4000), spots()
	lengths := map[int]int{}
	for n := range 4001 {
		master, place, x := masters()[n%len(masters())], places[n%len(places)], tape.New(chanceText(n + 16)[n:])
		s := letters[4000-n:]
		var c Cipher = New(master, x)
		cell, err := c.Seal(place, s)
		if want := (plain{master}).cell(place, chanceText(n + 16)[n:], s); cell != want || err != api.OK {
			t.Errorf("%d letters: %x, %d; asked for %x", n, cell, err, want)
		}
		if x.Left() != 0 {
			t.Errorf("%d letters: %d bytes of chance left", n, x.Left())
		}
		opens(t, fmt.Sprint(n, " letters"), New(master, nil), place, cell, s)
		lengths[plainBucket(n)] = len(cell)
	}
	if len(lengths) != 8 {
		t.Errorf("lengths %v", lengths)
	}
	for bucket, n := range lengths {
		if n != bucket+32 {
			t.Errorf("bucket %d: %d", bucket, n)
		}
	}
}

// P15.1: texts of any letters, bytes 0 at their end, too.
func TestCellsLetters(t *testing.T) {
	x := chance(1 << 16)
	k := New("master", x)
	for _, s := range []string{"\x00", "\x00\x00\x00\x00", strings.Repeat("\x00", 28), strings.Repeat("\x00", 29), strings.Repeat("\x00", 4000),
		"a\x00", "a\x00\x00", "\x00a", strings.Repeat("\xff", 4000), "\x00\x00\x00\x05hello", "é", "\xff\xfe"} {
		for _, place := range spots() {
			taken := x.Taken()
			cell, err := k.Seal(place, s)
			if want := (plain{"master"}).cell(place, chanceText(1 << 16)[taken:taken+16], s); cell != want || err != api.OK {
				t.Errorf("%s: %x, %d", name(s), cell, err)
			}
			opens(t, name(s), k, place, cell, s)
		}
	}
}

// P15.1: each cell has the next 16 bytes of the tape, so that the same text twice at a place makes unlike cells; both open.
func TestCellsNumbers(t *testing.T) {
	chances := chanceText(20*16 + 15)
	x := tape.New(chances)
	k := New("master", x)
	seen := map[string]int{}
	for i := range 20 {
		cell, err := k.Seal("p", "hello")
		if err != api.OK || cell[:16] != chances[16*i:16*i+16] || x.Taken() != 16*i+16 {
			t.Errorf("%d: %x, %d, %d taken", i, cell, err, x.Taken())
		}
		opens(t, "hello", k, "p", cell, "hello")
		seen[cell[16:48]]++
		seen[cell[48:]]++
	}
	if len(seen) != 40 {
		t.Errorf("%d unlike ones of 40", len(seen))
	}
	if cell, err := k.Seal("p", "hello"); cell != "" || err != api.ErrEntropy || x.Left() != 15 {
		t.Errorf("%x, %d, %d left", cell, err, x.Left())
	}
}

// P15.1, R3: at the tape's end there is no cell, and nothing is taken; what was sealed opens still.
func TestCellsTapeEnds(t *testing.T) {
	cell := plain{"master"}.cell("p", chanceText(16), "hello")
	for left := range 16 {
		x := chance(left)
		k := New("master", x)
		for _, s := range []string{"", "hello", strings.Repeat("a", 4000)} {
			if got, err := k.Seal("p", s); got != "" || err != api.ErrEntropy {
				t.Errorf("%d left: %x, %d", left, got, err)
			}
		}
		if x.Left() != left || x.Taken() != 0 {
			t.Errorf("%d left: %d are", left, x.Left())
		}
		opens(t, "at the end", k, "p", cell, "hello")
		at(t, "at the end", plain{"master"}.catalog("t"))(k.Catalog("t"))
	}
	if got, err := New("master", nil).Seal("p", "hello"); got != "" || err != api.ErrEntropy {
		t.Errorf("no tape: %x, %d", got, err)
	}
	opens(t, "no tape", New("master", nil), "p", cell, "hello")
}

// P15.1, R1: a text that is too long has no cell, ahead of the tape being asked; nothing is taken.
func TestCellsLong(t *testing.T) {
	for _, n := range []int{4001, 4002, 4092, 4093, 5000, 1 << 16, api.MaxBytes} {
		for _, left := range []int{0, 15, 16, 100} {
			x := chance(left)
			if got, err := New("master", x).Seal("p", strings.Repeat("a", n)); got != "" || err != api.ErrLong || x.Taken() != 0 {
				t.Errorf("%d letters, %d left: %x, %d, %d taken", n, left, got, err, x.Taken())
			}
		}
		if got, err := New("master", nil).Seal("p", strings.Repeat("a", n)); got != "" || err != api.ErrLong {
			t.Errorf("%d letters, no tape: %x, %d", n, got, err)
		}
	}
}

// P15.2: a cell opens at its place alone, and by its master alone.
func TestCellsElsewhere(t *testing.T) {
	x := chance(1 << 12)
	k := New("master", x)
	for _, place := range spots() {
		for _, s := range []string{"", "hello", strings.Repeat("a", 100)} {
			cell, _ := k.Seal(place, s)
			for _, other := range append(spots(), place+"\x00", place+"p", "p"+place, place+cell[:16]) {
				if other != place {
					stays(t, "elsewhere", k, other, cell)
				}
			}
			for i := range min(len(place), 32) {
				stays(t, "a turned place", k, turned(place, i, 1), cell)
				stays(t, "a cut place", k, without(place, i), cell)
			}
			for _, master := range masters() {
				if master != "master" {
					stays(t, "another master", New(master, x), place, cell)
				}
			}
		}
	}
}

// P15.2: turned in any byte, in any way, a cell doesn't open.
func TestCellsTurned(t *testing.T) {
	k, place := New("master", chance(1<<12)), plain{"master"}.row("t", number(7))
	for _, s := range []string{"", "hello", strings.Repeat("\x00", 28), strings.Repeat("a", 29)} {
		cell, _ := k.Seal(place, s)
		for i := range len(cell) {
			for x := 1; x < 256; x++ {
				stays(t, fmt.Sprint("turned at ", i), k, place, turned(cell, i, byte(x)))
			}
		}
		opens(t, "not turned", k, place, cell, s)
	}
	cell, _ := k.Seal(place, strings.Repeat("a", 4000))
	for i := range len(cell) {
		stays(t, fmt.Sprint("turned at ", i), k, place, turned(cell, i, 1<<(i%8)))
	}
}

// P15.2: cut, drawn out, with bytes of another one, or with two of its own swapped, a cell doesn't open.
func TestCellsCut(t *testing.T) {
	k, place := New("master", chance(1<<12)), plain{"master"}.row("t", number(7))
	for _, s := range []string{"", "hello", strings.Repeat("a", 60), strings.Repeat("a", 200)} {
		cell, _ := k.Seal(place, s)
		other, _ := k.Seal(place, s)
		for i := range len(cell) {
			stays(t, "cut behind", k, place, cell[:i])
			stays(t, "without a byte", k, place, without(cell, i))
			stays(t, "with one twice", k, place, cell[:i]+cell[i:i+1]+cell[i:])
			if i > 0 {
				stays(t, "cut ahead", k, place, cell[i:])
				stays(t, "cut ahead, by the place", k, place+cell[:i], cell[i:])
				stays(t, "two together", k, place, cell[:i]+other[i:])
			}
			if i > 0 && cell[i] != cell[i-1] {
				stays(t, "swapped", k, place, cell[:i-1]+cell[i:i+1]+cell[i-1:i]+cell[i+1:])
			}
		}
		for n := 1; n < 200; n++ {
			stays(t, "bytes ahead", k, place, strings.Repeat("\x00", n)+cell)
			stays(t, "bytes behind", k, place, cell+strings.Repeat("\x00", n))
		}
		stays(t, "twice", k, place, cell+cell)
	}
}

// P15.1: what is no cell doesn't open, though it has its master's seal: lengths that are no bucket's.
func TestSealedNoBucket(t *testing.T) {
	k, p := New("master", nil), plain{"master"}
	for n := range 300 {
		for _, told := range []int{0, n - 4, n - 5, 28, 60} {
			s := sized(uint32(told), strings.Repeat("\x00", 300))[:n]
			if told >= 0 && told+4 <= n && plainBucket(told) == n {
				opens(t, fmt.Sprint(n, " bytes"), k, "p", p.sealed("p", chanceText(16), s), s[4:4+told])
			} else {
				stays(t, fmt.Sprint(n, " bytes"), k, "p", p.sealed("p", chanceText(16), s))
			}
		}
	}
	for _, n := range []int{4000, 4004, 4095, 4097, 4128, 8191, 8192, 1 << 16, api.MaxBytes} {
		for _, told := range []int{0, 4000, 4001, 4092, 4093, 8188, n - 4} {
			stays(t, fmt.Sprint(n, " bytes"), k, "p", p.sealed("p", chanceText(16), sized(uint32(told), strings.Repeat("\x00", n-4))))
		}
	}
	for n := range 64 {
		stays(t, "bytes alone", k, "p", strings.Repeat("\x00", n))
	}
}

// P15.1: nor does what tells a length that isn't of its bucket.
func TestSealedLengths(t *testing.T) {
	k, p := New("master", nil), plain{"master"}
	for _, bucket := range []int{32, 64, 128, 256, 512, 1024, 2048, 4096} {
		blank := strings.Repeat("\x00", bucket-4)
		for _, from := range []int{0, bucket/2 - 8, bucket - 8, 3990, 4090} {
			for n := from; n < from+16; n++ {
				s := p.sealed("p", chanceText(16), sized(uint32(n), blank))
				if plainBucket(n) == bucket {
					opens(t, fmt.Sprint(n, " in ", bucket), k, "p", s, blank[:n])
				} else {
					stays(t, fmt.Sprint(n, " in ", bucket), k, "p", s)
				}
			}
		}
		for _, ahead := range []uint32{1 << 8, 1 << 12, 1 << 16, 1 << 24, 1 << 31, math.MaxUint32 - 255} {
			n := ahead + uint32(bucket-4)
			if n > 4000 {
				stays(t, fmt.Sprint(n, " in ", bucket), k, "p", p.sealed("p", chanceText(16), sized(n, blank)))
			}
		}
	}
}

// P15.1: nor does what is filled up with other bytes than 0.
func TestSealedFilled(t *testing.T) {
	k, p := New("master", nil), plain{"master"}
	for _, s := range []string{"", "hello", strings.Repeat("a", 27), strings.Repeat("a", 29), strings.Repeat("a", 4000)} {
		whole := full(s)
		opens(t, "filled up with bytes 0", k, "p", p.sealed("p", chanceText(16), whole), s)
		for i := 4 + len(s); i < len(whole); i++ {
			for _, x := range []byte{1, 128, 255} {
				stays(t, fmt.Sprint(x, " at ", i), k, "p", p.sealed("p", chanceText(16), turned(whole, i, x)))
			}
		}
	}
}

// P15.2: of bytes by chance none are a cell.
func TestCellsChance(t *testing.T) {
	k, r := New("master", nil), rand.New(rand.NewSource(1))
	for range 20000 {
		b := make([]byte, r.Intn(200))
		if r.Intn(2) == 0 {
			b = make([]byte, 32+32<<r.Intn(4))
		}
		r.Read(b)
		stays(t, "chance", k, "p", string(b))
	}
}

// P15.1: several may ask at once: each cell has a number of its own, all of them open, and places are what they are.
func TestSeveral(t *testing.T) {
	const hands, each = 8, 50
	x := chance(16 * hands * each)
	k := New("master", x)
	cells := make([][]string, hands)
	var all sync.WaitGroup
	for i := range cells {
		all.Go(func() {
			for j := range each {
				cell, err := k.Seal(fmt.Sprint(i), fmt.Sprint(j))
				if err != api.OK {
					t.Error(err)
				}
				cells[i] = append(cells[i], cell)
				at(t, "Row", plain{"master"}.row("t", number(int64(j))))(k.Row("t", number(int64(j))))
			}
		})
	}
	all.Wait()
	numbers := map[string]int{}
	for i, l := range cells {
		for j, cell := range l {
			numbers[cell[:16]]++
			opens(t, "by several", k, fmt.Sprint(i), cell, fmt.Sprint(j))
		}
	}
	if len(numbers) != hands*each || x.Left() != 0 {
		t.Errorf("%d numbers of %d, %d bytes left", len(numbers), hands*each, x.Left())
	}
}
