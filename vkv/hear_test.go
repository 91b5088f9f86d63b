package vkv

import (
	"fmt"
	"slices"
	"strings"
	"testing"

	"vidimus/api"
	"vidimus/disk"
	"vidimus/header"
	"vidimus/part"
	"vidimus/shard"
)

// copied: a client that is as this one, on a disk that is as its own; the shard is the same.
func (x *side) copied() *side {
	x.t.Helper()
	s, err := x.d.Read()
	if err != api.OK {
		x.t.Fatal("down")
	}
	d, c := disk.New(), *x.c
	d.Swap(s)
	c.disk, c.refused = d, slices.Clone(c.refused)
	return &side{t: x.t, s: x.s, d: d, c: &c}
}

// shows: the text of a part of a map.
func shows(t *testing.T, m pairs, keys []string, under ...api.Prefix) string {
	t.Helper()
	s, ok := part.Show(m.trie(), keys, under)
	if !ok {
		t.Fatal("too long")
	}
	return s
}

// scene: a client whose floor is far behind the shard's last header, and that looks for a, b, and all that begins as c does; all headers, and the map at each.
type scene struct {
	*side
	chain  []api.Signed
	maps   []pairs
	floor  int // the floor's place in the chain
	serial uint64
	keys   []string
	under  []api.Prefix
}

// set: the scene, with the floor at that place of nine.
func set(t *testing.T, floor int) *scene {
	t.Helper()
	x := started(t)
	y := x.beside(8)
	m := pairs{}
	s := &scene{side: x, chain: x.s.Chain(), maps: []pairs{m}, floor: floor, keys: keys("a", "b"), under: []api.Prefix{{Key: key("c"), Bits: 2}}}
	for i := range 9 {
		if i == floor {
			x.looks(keys("a", "e"))
		}
		if i == 8 {
			break
		}
		p, d := puts(fmt.Sprint(i), "v", "a", fmt.Sprint("a", i), "c", ""), keys(fmt.Sprint(i-3), []string{"b", "e"}[i%2])
		all := keys("a", "b", "c", "e", fmt.Sprint(i), fmt.Sprint(i-3))
		y.looks(all)
		y.swaps(p, d...)
		m = m.with(p, d)
		s.maps = append(s.maps, m)
	}
	s.chain = x.s.Chain()
	s.serial = x.c.Life()<<32 + 2
	x.asks(s.keys, s.under...)
	x.at("set", s.chain[floor])
	return s
}

// told: the right answer of a shard whose last header is that one.
func (s *scene) told(last int) string {
	s.t.Helper()
	return story(s.serial, s.chain[s.floor+1:last+1], shows(s.t, s.maps[last], s.keys, s.under...))
}

// tampers: of that answer the client is alarmed.
func (s *scene) tampers(what, answer string) {
	s.t.Helper()
	x := s.copied()
	x.hears(what, answer, api.ErrTamper)
	x.alarms(what, s.chain[s.floor])
}

// takes: of that answer the floor is that header, and a and b are read as the map at that place has them.
func (s *scene) takes(what, answer string, last int) *side {
	s.t.Helper()
	x := s.copied()
	x.hears(what, answer, api.OK)
	x.idle(what)
	x.at(what, s.chain[last])
	x.reads(s.maps[last], "a", "b", "c")
	for _, u := range s.under {
		if l, err := x.c.Under(u.Key, u.Bits); !slices.Equal(l, s.maps[last].under(u.Key, u.Bits)) || err != api.OK {
			s.t.Fatalf("%s: under %s: %s, %d", what, brief(u), brief(l), err)
		}
	}
	if x.c.Alarmed() || x.c.Down() {
		s.t.Fatalf("%s: alarmed or down", what)
	}
	return x
}

// P14.1: from each floor on, what a shard of each later header shows is taken.
func TestLookHeard(t *testing.T) {
	for floor := range 9 {
		s := set(t, floor)
		for last := floor; last < 9; last++ {
			what := fmt.Sprintf("from %d to %d", floor, last)
			x := s.takes(what, s.told(last), last)
			x.hears(what+", once more", s.told(last), api.ErrArg)
			x.goesOn(what, s.chain[last])
		}
		x := s.takes("the shard's own answer", s.s.Apply(lookBytes(7, s.serial, uint64(floor), s.keys, s.under)), 8)
		x.swaps(puts("a", "new"))
	}
}

// goesOn: the next header follows that floor.
func (x *side) goesOn(what string, floor api.Signed) {
	x.t.Helper()
	cmd := x.changes(puts("a", "next"))
	if !strings.Contains(cmd, text(plainHash(floor.Header))+"l\x07"+num(4)+num(floor.Header.Seq+1)+text(plainHash(floor.Header))) {
		x.t.Fatalf("%s: %s follows another one", what, brief(cmd))
	}
	x.hears(what, word(x.c.Life()<<32+3, 1), api.OK)
	if f := x.c.Floor().Header; f.Seq != floor.Header.Seq+1 || f.Prev != plainHash(floor.Header) {
		x.t.Fatalf("%s: the floor is %s", what, brief(f))
	}
}

// P14.1: answers to other serials change nothing, whatever they say; the right one is taken behind them.
func TestOtherSerials(t *testing.T) {
	s := set(t, 3)
	cmd, _ := s.c.Pending()
	for _, n := range []uint64{0, 1, 2, s.serial - 1, s.serial + 1, s.serial - 1<<32, s.serial + 1<<32, s.serial &^ (1<<32 - 1), s.serial << 32, most} {
		for what := range 6 {
			a := word(n, what)
			if what == 0 {
				a = story(n, s.chain[4:], shows(t, s.maps[8], s.keys))
			}
			for range 2 {
				s.hears("to another serial", a, api.ErrLost)
				s.waits("to another serial", cmd)
				s.at("to another serial", s.chain[3])
				s.reads(s.maps[3], "a", "e")
			}
		}
		s.hears("lies to another serial", story(n, s.chain[:2], "junk"), api.ErrLost)
		s.hears("lies to another serial", story(n, nil, ""), api.ErrLost)
	}
	s.takes("the right one", s.told(8), 8)
	x := s.copied()
	x.hears("look", s.told(8), api.OK)
	cmd = x.changes(puts("a", "1"))
	for _, n := range []uint64{0, s.serial, s.serial + 2, most} {
		for what := range 6 {
			a := word(n, what)
			if what == 0 {
				a = s.told(8)
			}
			x.hears("of a swap, to another serial", a, api.ErrLost)
			x.waits("of a swap, to another serial", cmd)
			x.reads(s.maps[8], "a", "b")
		}
	}
	x.hears("swap", x.s.Apply(cmd), api.OK)
	x.reads(s.maps[8].with(puts("a", "1"), nil), "a", "b")
}

// Nothing is pending: no answer changes anything.
func TestNothingPending(t *testing.T) {
	s := set(t, 3)
	x := s.copied()
	x.hears("look", s.told(5), api.OK)
	for _, serial := range []uint64{0, s.serial, s.serial + 1} {
		for _, a := range []string{"", "junk", word(serial, 1), word(serial, 2), word(serial, 3), word(serial, 4), word(serial, 5), story(serial, s.chain[6:], "junk"), s.told(8)} {
			x.hears("nothing is pending", a, api.ErrArg)
		}
	}
	x.at("nothing is pending", s.chain[5])
	x.reads(s.maps[5], "a", "b", "c")
	if x.c.Alarmed() {
		t.Error("alarmed")
	}
}

// P14.2: what is no answer, or another word than seen, alarms.
func TestLookAlarms(t *testing.T) {
	for floor := range 9 {
		s := set(t, floor)
		for what := 1; what < 6; what++ {
			s.tampers(fmt.Sprint("word ", what), word(s.serial, what))
		}
		for _, a := range []string{
			"", "junk", "\x00", "l\x00", num(s.serial), rows(num(s.serial)), word(s.serial, 0), word(s.serial, 6), word(s.serial, 256), rows(num(s.serial), num(0), rows()),
			rows(num(s.serial), num(0), rows(), text(""), text("")), rows(text(""), num(0), rows(), text("")), s.told(8) + "\x00", s.told(8) + s.told(8), "\x00" + s.told(8),
			s.told(8)[1:], header.Text(s.chain), shows(t, s.maps[8], s.keys), lookBytes(7, s.serial, 3, s.keys, nil), s.s.State(), strings.Repeat("\xff", 1000),
		} {
			s.tampers(brief(a), a)
		}
		s.takes("the right one", s.told(8), 8)
	}
}

// P14.2: the right answer, cut at each place and with a byte turned.
func TestLookTurned(t *testing.T) {
	for _, floor := range []int{5, 8} {
		s := set(t, floor)
		lost := 0
		for i, a := range turns(s.told(8)) {
			got, ok := shard.Answer(a)
			if ok && got.Serial != s.serial {
				lost++
				x := s.copied()
				x.hears(fmt.Sprint("turn ", i), a, api.ErrLost)
				x.hears("the right one", s.told(8), api.OK)
				continue
			}
			s.tampers(fmt.Sprint("turn ", i), a)
		}
		if lost == 0 || lost > 100 {
			t.Errorf("%d were to another serial", lost)
		}
	}
}

// P14.2: headers that are no chain from the floor on, with the part of the last one's map, or of any.
func TestNoChain(t *testing.T) {
	s := set(t, 3)
	right := s.chain[4:]
	for name, l := range map[string][]api.Signed{
		"none, but a part of another map": nil,
		"without the first":               right[1:],
		"the last alone":                  right[4:],
		"with the floor":                  s.chain[3:],
		"from the first on":               s.chain,
		"from ahead of the floor":         s.chain[2:],
		"the floor alone":                 s.chain[3:4],
		"an elder one":                    s.chain[2:3],
		"elder ones":                      s.chain[:3],
		"the first one":                   s.chain[:1],
		"the last one twice":              append(slices.Clone(right), right[4]),
		"the first one behind":            append(slices.Clone(right), s.chain[0]),
		"two changed round":               {right[0], right[2], right[1], right[3], right[4]},
		"the other way":                   {right[4], right[3], right[2], right[1], right[0]},
		"one is missing":                  {right[0], right[1], right[3], right[4]},
		"one is there twice":              {right[0], right[1], right[1], right[2], right[3], right[4]},
		"all twice":                       append(slices.Clone(right), right...),
	} {
		for last := range s.maps {
			if l == nil && last == 3 {
				continue
			}
			s.tampers(fmt.Sprintf("%s, map %d", name, last), story(s.serial, l, shows(t, s.maps[last], s.keys, s.under...)))
		}
	}
	// Each left out, or again, at each place.
	for i := range right {
		shown := shows(t, s.maps[8], s.keys, s.under...)
		if i < 4 {
			s.tampers(fmt.Sprint("without ", i), story(s.serial, slices.Delete(slices.Clone(right), i, i+1), shown))
		}
		s.tampers(fmt.Sprint("again ", i), story(s.serial, slices.Insert(slices.Clone(right), i, right[i]), shown))
		s.tampers(fmt.Sprint("without its seal, ", i), story(s.serial, s.other(i, api.Signed{Header: right[i].Header}), shown))
		s.tampers(fmt.Sprint("by another key, ", i), story(s.serial, s.other(i, sealed("kez", right[i].Header)), shown))
		for _, h := range turnedHeaders(right[i].Header) {
			s.tampers(fmt.Sprint("another one, not signed, at ", i), story(s.serial, s.other(i, api.Signed{Header: h, Mac: right[i].Mac}), shown))
			x := sealed("key", h)
			// The last one may be another one that follows, if its root is the same.
			if i == 4 && h.Seq == 8 && h.Shard == 4 && h.Prev == right[4].Header.Prev && h.Root == right[4].Header.Root {
				y := s.copied()
				y.hears("another last one", story(s.serial, s.other(i, x), shown), api.OK)
				y.at("another last one", x)
				continue
			}
			s.tampers(fmt.Sprint("another one, signed, at ", i), story(s.serial, s.other(i, x), shown))
		}
	}
}

// other: the right headers behind a floor at 3, with another one at that place.
func (s *scene) other(i int, h api.Signed) []api.Signed {
	l := slices.Clone(s.chain[4:])
	l[i] = h
	return l
}

// turnedHeaders: headers with one field that is another one.
func turnedHeaders(h api.Header) []api.Header {
	var out []api.Header
	add := func(change func(*api.Header)) {
		x := h
		change(&x)
		out = append(out, x)
	}
	for _, d := range []uint64{1, 2, most, 1 << 32} {
		add(func(x *api.Header) { x.Shard += d })
		add(func(x *api.Header) { x.Seq += d })
		add(func(x *api.Header) { x.Who += d })
		add(func(x *api.Header) { x.Stamp += d })
	}
	turned := func(s string, bit int) string {
		b := []byte(s)
		b[bit/8] ^= 1 << (bit % 8)
		return string(b)
	}
	for bit := 0; bit < 256; bit += 51 {
		add(func(x *api.Header) { x.Prev = turned(h.Prev, bit) })
		add(func(x *api.Header) { x.Root = turned(h.Root, bit) })
	}
	add(func(x *api.Header) { x.Prev = fill(0) })
	add(func(x *api.Header) { x.Root = fill(0) })
	return out
}

// P14.2: another shard's chain, and one by another key, though each follows.
func TestOtherChains(t *testing.T) {
	first := func(key string, number uint64) []api.Signed {
		l := []api.Signed{header.First(key, number)}
		for i := range 3 {
			next, _ := header.Next(key, l[i], pairs{fill(byte(i)): "v"}.root(), 1, 1)
			l = append(l, next)
		}
		return l
	}
	s := set(t, 0)
	mine, shown := first("key", 4), shows(t, pairs{fill(2): "v"}, s.keys, s.under...)
	x := s.copied()
	x.hears("its own", story(s.serial, mine[1:], shown), api.OK)
	x.at("its own", mine[3])
	for _, l := range [][]api.Signed{first("key", 5), first("kez", 4), first("", 4), first("key", 0), append(first("key", 4)[:2], first("kez", 4)[2:]...)} {
		s.tampers("another chain", story(s.serial, l[1:], shown))
		s.tampers("another chain, with its first one", story(s.serial, l, shown))
	}
	if s.floor != 0 {
		t.Fatal("not at the first one")
	}
}

// P14.2: texts that are no part of the last one's map, or don't tell all that was asked.
func TestTexts(t *testing.T) {
	s := set(t, 3)
	say := func(last int, shown string) string { return story(s.serial, s.chain[4:last+1], shown) }
	for last := 3; last < 9; last++ {
		m := s.maps[last]
		right := shows(t, m, s.keys, s.under...)
		for _, shown := range []string{
			"", "junk", "l\x00", rows(), rows(text(m.root())), rows(text(fill(0))), rows(rows(text(key("a")), text(m[key("a")]))), right + "\x00", right[:len(right)-1], rows(text(right)),
			shows(t, m.with(puts("a", "other"), nil), s.keys, s.under...), shows(t, m.with(puts("z", ""), nil), s.keys, s.under...), shows(t, m.with(nil, keys("a")), s.keys, s.under...),
		} {
			s.tampers(fmt.Sprintf("to %d: %s", last, brief(shown)), say(last, shown))
		}
		for other := range s.maps {
			if other != last {
				s.tampers(fmt.Sprintf("to %d: map %d", last, other), say(last, shows(t, s.maps[other], s.keys, s.under...)))
			}
		}
		// All that is there is more than was asked.
		s.takes("all", say(last, shows(t, m, nil, api.Prefix{Key: fill(0)})), last)
		s.takes("more", say(last, shows(t, m, append(keys("1", "none", "e"), s.keys...), s.under...)), last)
	}
}

// P14.2: less than was asked: each key and each prefix must be told.
func TestToldLess(t *testing.T) {
	m := pairs{}
	for i := range 40 {
		m[key(i)] = fmt.Sprint(i)
	}
	x := started(t)
	first := x.c.Floor()
	next, _ := header.Next("key", first, m.root(), 1, 1)
	tried := 0
	for i := range 40 {
		k := keys(fmt.Sprint(i), fmt.Sprint("none", i), fmt.Sprint(39-i))
		u := []api.Prefix{{Key: key(i + 1), Bits: i % 9}, {Key: key("none"), Bits: 4}, {Key: key(i), Bits: 256}}
		ask := x.copied()
		ask.asks(k, u...)
		all := story(1<<32+1, []api.Signed{next}, shows(t, m, k, u...))
		y := ask.copied()
		y.hears("all", all, api.OK)
		y.reads(nil, fmt.Sprint("none", i))
		for left := range 6 {
			k, u := slices.Clone(k), slices.Clone(u)
			if left < 3 {
				k = slices.Delete(k, left, left+1)
			} else {
				u = slices.Delete(u, left-3, left-2)
			}
			less := story(1<<32+1, []api.Signed{next}, shows(t, m, k, u...))
			y := ask.copied()
			if less == all {
				y.hears("the same", less, api.OK)
				continue
			}
			tried++
			y.hears(fmt.Sprintf("%d, without %d", i, left), less, api.ErrTamper)
			y.alarms("less", first)
		}
	}
	if tried < 60 {
		t.Errorf("%d told less", tried)
	}
}

// Nothing is asked: any part of the last one's map is taken, the top's hash alone, too.
func TestNothingAsked(t *testing.T) {
	m := pairs{key("a"): "1", key("b"): "2"}
	x := started(t)
	next, _ := header.Next("key", x.c.Floor(), m.root(), 1, 1)
	x.asks(nil)
	for _, shown := range []string{rows(text(m.root())), shows(t, m, nil), shows(t, m, keys("a")), shows(t, m, nil, api.Prefix{Key: fill(0)})} {
		y := x.copied()
		y.hears("nothing asked", story(1<<32+1, []api.Signed{next}, shown), api.OK)
		y.at("nothing asked", next)
	}
	y := x.copied()
	y.hears("nothing asked", story(1<<32+1, nil, rows()), api.OK)
	y.at("nothing asked", x.c.Floor())
	y.reads(nil, "a", "b")
	y = x.copied()
	y.hears("nothing asked", story(1<<32+1, []api.Signed{next}, rows()), api.ErrTamper)
	y.alarms("another map", x.c.Floor())
}

// An elder story is refused by who knows a newer one, and another one of the same length, too.
func TestElderStory(t *testing.T) {
	x := started(t)
	first := x.last()
	elder := shard.New(4, first)
	fork := shard.New(4, first)
	other := &side{t: t, s: fork, d: disk.New()}
	other.c = opened(t, other.d, "key", 4, 8)
	for i := range 3 {
		x.looks(keys("a"))
		x.swaps(puts("a", fmt.Sprint(i)))
		other.looks(keys("a"))
		other.swaps(puts("a", fmt.Sprint("other", i)))
	}
	floor := x.last()
	for what, s := range map[string]*shard.Shard{"elder": elder, "fork": fork} {
		for _, k := range [][]string{nil, keys("a"), keys("none")} {
			y := x.copied()
			y.hears(what, s.Apply(y.asks(k)), api.ErrTamper)
			y.alarms(what, floor)
		}
	}
	other.looks(keys("a"))
	other.swaps(puts("a", "longer"))
	y := x.copied()
	y.hears("longer", fork.Apply(y.asks(keys("a"))), api.ErrTamper)
	y.alarms("longer", floor)
	// Behind an opening the floor is still the same.
	x.reborn(0)
	x.hears("elder, behind a crash", elder.Apply(x.asks(nil)), api.ErrTamper)
	x.alarms("elder, behind a crash", floor)
	x.reborn(0)
	isNew(t, "alarmed, and opened", x.c, floor, 3)
	x.looks(keys("a"))
	x.reads(pairs{key("a"): "2"}, "a")
}
