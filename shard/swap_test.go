package shard

import (
	"fmt"
	"slices"
	"strings"
	"testing"

	"vidimus/api"
	"vidimus/header"
)

// P13.1: swaps that put, put again and delete, one behind the other.
func TestSwaps(t *testing.T) {
	x := started(4)
	x.swaps(t, 1, 1, puts("a", "1"), nil)
	x.swaps(t, 1, 2, puts("a", "2", "b", ""), nil)
	x.swaps(t, 2, 1, puts("c", "3"), keys("a"))
	x.swaps(t, 1, 3, nil, keys("b", "c"))
	if x.s.Map().Len() != 0 || len(x.s.Chain()) != 5 {
		t.Error(x.s.Map().Len(), len(x.s.Chain()))
	}
	// Nothing put and nothing deleted: the map is the same, the chain is longer.
	x.swaps(t, 1, 4, nil, nil)
	x.swaps(t, 1, 5, puts("a", "1", "a", "2", "a", "3"), nil)
	if v, ok := x.s.Map().Get(key("a")); !ok || v != "3" {
		t.Errorf("put three times: %q, %t", v, ok)
	}
	x.swaps(t, 1, 6, puts("d", "4", "a", "5"), keys("d", "a"))
	if x.s.Map().Len() != 0 {
		t.Error("put and deleted is there")
	}
	x.swaps(t, 1, 7, puts("e", "6"), keys("none", "none"))
	x.swaps(t, 1, 8, puts("e", "6"), nil)
	x.swaps(t, 1, 9, nil, keys("e", "e"))
	if x.s.Map().Root() != fill(0) {
		t.Error("pairs are left")
	}
}

// P13.1: each root that the map hasn't is bad, also those that it has with the puts or the deletes left out, or in another order.
func TestSwapRoots(t *testing.T) {
	x := played(t, 4)
	p, d := puts("a", "1", "n", "2", "a", "3"), keys("c", "n")
	turned := puts("a", "3", "n", "2", "a", "1")
	serial := uint64(500)
	for what, next := range map[string]api.Signed{
		"nothing done":           x.next(nil, nil, 1),
		"without the deletes":    x.next(p, nil, 1),
		"without the puts":       x.next(nil, d, 1),
		"puts the other way":     x.next(turned, d, 1),
		"deletes ahead of puts":  x.next(puts("a", "3", "n", "2"), keys("c"), 1),
		"without the last put":   x.next(p[:2], d, 1),
		"without the last drop":  x.next(p, d[:1], 1),
		"another value":          x.next(puts("a", "x"), d, 1),
		"the root of no pairs":   x.next(nil, keys("a", "b", "c", "d"), 1),
		"another header's root":  x.next(nil, nil, 2),
		"a root of other things": x.next(puts("z", "z"), nil, 1),
	} {
		serial++
		c := cmd{what: 1, client: 1, serial: serial, hash: plainHash(x.last().Header), next: next, puts: p, deletes: d}
		x.is(t, what, c.bytes(), serial, api.Bad)
	}
	for bit := range 256 {
		serial++
		c := x.swap(1, serial, p, d)
		b := []byte(c.next.Header.Root)
		b[bit/8] ^= 1 << (bit % 8)
		c.next.Header.Root = string(b)
		x.is(t, fmt.Sprint("bit ", bit), c.bytes(), serial, api.Bad)
	}
	x.swaps(t, 1, 1000, p, d)
}

// P13.1: keys that haven't 32 bytes are bad, also where the root is that of the map without them, and as deletes.
func TestSwapKeys(t *testing.T) {
	for _, k := range []string{"", "x", fill(1)[:31], fill(1) + "\x00", fill(1) + fill(1)} {
		x := played(t, 4)
		good := puts("n", "1")
		serial := uint64(500)
		for _, p := range [][]api.Pair{{{Key: k, Val: "v"}}, {{Key: k}, good[0]}, {good[0], {Key: k, Val: "v"}}} {
			serial++
			c := x.swap(1, serial, p, nil)
			for _, left := range [][]api.Pair{nil, good} {
				c.next = x.next(left, nil, 1)
				x.is(t, fmt.Sprintf("put of %d", len(k)), c.bytes(), serial, api.Bad)
				serial++
				c.serial = serial
			}
		}
		for _, d := range [][]string{{k}, {k, key("a")}, {key("a"), k}} {
			serial++
			c := x.swap(1, serial, good, d)
			x.is(t, fmt.Sprintf("delete of %d", len(k)), c.bytes(), serial, api.Bad)
		}
		// Ahead of that it is asked whether the hash is that of the last header.
		c := x.swap(1, 600, []api.Pair{{Key: k}}, []string{k})
		c.hash = fill(0)
		x.is(t, "another hash, and a wrong key", c.bytes(), 600, api.Other)
	}
	x := played(t, 4)
	x.swaps(t, 1, 500, []api.Pair{{Key: fill(1), Val: ""}, {Key: fill(0), Val: "v"}, {Key: fill(255), Val: "w"}}, []string{fill(1)})
}

// P13.1: another hash than the last header's: other, whatever else is right or wrong.
func TestSwapOther(t *testing.T) {
	x := played(t, 4)
	serial := uint64(500)
	last := plainHash(x.last().Header)
	hashes := []string{"", "x", fill(0), fill(255), last[:31], last + "\x00", last + last, x.last().Header.Prev, x.last().Header.Root, x.last().Mac}
	for _, s := range x.s.Chain()[:3] {
		hashes = append(hashes, plainHash(s.Header))
	}
	for bit := range 256 {
		b := []byte(last)
		b[bit/8] ^= 1 << (bit % 8)
		hashes = append(hashes, string(b))
	}
	for _, h := range hashes {
		right := x.swap(1, 0, puts("n", "1"), keys("a"))
		wrong := right
		wrong.next = x.next(nil, nil, 9)
		gap := right
		gap.next.Header.Seq++
		for _, c := range []cmd{right, wrong, gap} {
			serial++
			c.serial, c.hash = serial, h
			x.is(t, "hash "+brief(h), c.bytes(), serial, api.Other)
		}
	}
	// A header that follows that of the hash in front, as another client knew it.
	elder := x.s.Chain()[2]
	next, _ := header.Next("key", elder, mapOf(x.m.pairs).Root(), 1, 1)
	x.is(t, "both elder", cmd{what: 1, client: 1, serial: 5000, hash: plainHash(elder.Header), next: next}.bytes(), 5000, api.Other)
	x.swaps(t, 1, 5001, puts("n", "1"), keys("a"))
}

// P13.1: the last header's hash, and a header that doesn't follow: bad.
func TestSwapFollows(t *testing.T) {
	x := played(t, 4)
	serial := uint64(500)
	p := puts("n", "1")
	elder, _ := header.Next("key", x.s.Chain()[2], x.next(p, nil, 1).Header.Root, 1, 1)
	right := x.next(p, nil, 1)
	tries := map[string]api.Signed{"that follows an elder one": elder, "the last one": x.last(), "the first one": x.s.Chain()[0]}
	for what, turn := range map[string]func(h *api.Header){
		"Seq one more":      func(h *api.Header) { h.Seq++ },
		"Seq one less":      func(h *api.Header) { h.Seq-- },
		"Seq 0":             func(h *api.Header) { h.Seq = 0 },
		"the greatest Seq":  func(h *api.Header) { h.Seq = most },
		"another shard":     func(h *api.Header) { h.Shard++ },
		"shard 0":           func(h *api.Header) { h.Shard = 0 },
		"Prev of noughts":   func(h *api.Header) { h.Prev = fill(0) },
		"Prev of the elder": func(h *api.Header) { h.Prev = elder.Header.Prev },
		"Prev is the Root":  func(h *api.Header) { h.Prev = h.Root },
	} {
		s := right
		turn(&s.Header)
		tries[what], _ = header.Sign("key", s.Header)
	}
	for what, next := range tries {
		serial++
		c := cmd{what: 1, client: 1, serial: serial, hash: plainHash(x.last().Header), next: next, puts: p}
		x.is(t, what, c.bytes(), serial, api.Bad)
	}
	x.is(t, "right", cmd{what: 1, client: 1, serial: 1000, hash: plainHash(x.last().Header), next: right, puts: p}.bytes(), 1000, api.Done)
}

// P13.1: it knows no key: any seal will do, and any Who and Stamp.
func TestSwapSeals(t *testing.T) {
	x := played(t, 4)
	for i, mac := range []string{"", "x", fill(0), strings.Repeat("m", 1000)} {
		c := x.swap(1, uint64(500+2*i), puts("n", mac), nil)
		c.next.Mac = mac
		x.is(t, brief(mac), c.bytes(), c.serial, api.Done)
		c = x.swap(1, uint64(501+2*i), nil, nil)
		c.next.Header.Who, c.next.Header.Stamp = most-uint64(i), uint64(i)
		x.is(t, "Who and Stamp", c.bytes(), c.serial, api.Done)
	}
}

// P13.1: behind the greatest Seq no header follows.
func TestSwapLastSeq(t *testing.T) {
	first := api.Signed{Header: api.Header{Shard: 4, Seq: most - 1, Prev: fill(0), Root: fill(0)}}
	x := &sides{s: New(4, first), m: newModel(4, first)}
	x.swaps(t, 1, 1, puts("a", "1"), nil)
	last := x.last().Header
	for i, seq := range []uint64{0, 1, most - 1, most} {
		next := api.Signed{Header: api.Header{Shard: 4, Seq: seq, Prev: plainHash(last), Root: last.Root}}
		x.is(t, fmt.Sprint("Seq ", seq), cmd{what: 1, client: 1, serial: uint64(2 + i), hash: plainHash(last), next: next}.bytes(), uint64(2+i), api.Bad)
	}
	if a := x.hears(t, "look", Look(2, 1, most, nil, nil)); a.What != api.Seen || len(a.Headers) > 0 {
		t.Error(brief(a))
	}
}

// P13.1: what two clients swap at once: the first one is done, to the second one it is other; then it goes on.
func TestSwapTwo(t *testing.T) {
	x := started(4)
	a, b := x.swap(1, 1, puts("a", "1"), nil), x.swap(2, 1, puts("b", "2"), nil)
	x.is(t, "the first", a.bytes(), 1, api.Done)
	x.is(t, "the second", b.bytes(), 1, api.Other)
	x.is(t, "the second, again", b.bytes(), 1, api.Other)
	x.is(t, "the first, again", a.bytes(), 1, api.Done)
	x.swaps(t, 2, 2, puts("b", "2"), nil)
	if got := x.s.Map().All(); len(got) != 2 {
		t.Error(brief(got))
	}
}

// P13.1: a swap of just 2^24 bytes is done, one that is longer has no bytes.
func TestLongSwap(t *testing.T) {
	x := started(4)
	least := len(x.swap(1, 1, puts("a", ""), nil).bytes())
	fit := strings.Repeat("v", api.MaxBytes-least-3)
	c := x.swap(1, 1, puts("a", fit), nil)
	got := Swap(1, 1, c.hash, c.next, c.puts, nil)
	if got != c.bytes() || len(got) != api.MaxBytes {
		t.Fatalf("%d bytes", len(got))
	}
	x.is(t, "long", got, 1, api.Done)
	next := x.last()
	for _, l := range [][]api.Pair{puts("a", fit+"v"), append(puts("a", fit), api.Pair{}), slices.Repeat([]api.Pair{{}}, api.MaxBytes/6+1)} {
		if got := Swap(1, 1, fill(0), next, l, nil); got != "" {
			t.Errorf("%d puts: %d bytes", len(l), len(got))
		}
	}
	for _, l := range [][]string{{fit + strings.Repeat("v", 100)}, slices.Repeat([]string{""}, api.MaxBytes/2)} {
		if got := Swap(1, 1, fill(0), next, nil, l); got != "" {
			t.Errorf("%d deletes: %d bytes", len(l), len(got))
		}
	}
	if got := Swap(1, 1, strings.Repeat("h", api.MaxBytes), next, nil, nil); got != "" {
		t.Errorf("a long hash: %d bytes", len(got))
	}
	next.Mac = strings.Repeat("m", api.MaxBytes)
	if got := Swap(1, 1, fill(0), next, nil, nil); got != "" {
		t.Errorf("a long Mac: %d bytes", len(got))
	}
	none := len(Swap(1, 1, fill(0), x.last(), nil, nil))
	pairs := slices.Repeat([]api.Pair{{}}, (api.MaxBytes-none-3)/6)
	if got := Swap(1, 1, fill(0), x.last(), pairs, nil); len(got) < api.MaxBytes-12 {
		t.Errorf("%d puts: %d bytes", len(pairs), len(got))
	}
	drops := slices.Repeat([]string{""}, (api.MaxBytes-none-3)/2)
	if got := Swap(1, 1, fill(0), x.last(), nil, drops); len(got) < api.MaxBytes-8 {
		t.Errorf("%d deletes: %d bytes", len(drops), len(got))
	}
	y := started(4)
	y.is(t, "of 2^24 + 1 bytes", y.swap(1, 1, puts("a", fit+"v"), nil).bytes(), 0, api.Bad)
}
