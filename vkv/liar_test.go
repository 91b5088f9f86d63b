package vkv

import (
	"fmt"
	"math/rand"
	"slices"
	"testing"

	"vidimus/api"
	"vidimus/disk"
	"vidimus/header"
)

// signedOne: a header that a client signed: the one ahead of it, and the map that it stands for.
type signedOne struct {
	h     api.Signed
	ahead *signedOne
	m     pairs
}

// liar: a keeper that answers what it likes, of all that it ever saw; and clients that believe what they can check.
type liar struct {
	t      *testing.T
	r      *rand.Rand
	all    []*signedOne
	by     map[api.Signed]*signedOne
	others []api.Signed // headers of another shard, and by another key
	texts  []string     // of parts that were told
	folk   []*believer
	counts map[string]int
}

// believer: a client; and what is pending.
type believer struct {
	who     uint64
	d       *disk.Disk
	c       *Client
	life    uint64
	count   uint64
	keys    []string
	under   []api.Prefix
	swapped *signedOne
	refused []*signedOne // of this life
}

func newLiar(t *testing.T, seed int64) *liar {
	first := &signedOne{h: header.First("key", 4), m: pairs{}}
	w := &liar{t: t, r: rand.New(rand.NewSource(seed)), all: []*signedOne{first}, by: map[api.Signed]*signedOne{first.h: first}, counts: map[string]int{}}
	for _, x := range []struct {
		key    string
		number uint64
	}{{"kez", 4}, {"key", 5}} {
		l := []api.Signed{header.First(x.key, x.number)}
		for i := range 5 {
			next, _ := header.Next(x.key, l[i], pairs{key(i): "0"}.root(), 1, 1)
			l = append(l, next)
		}
		w.others = append(w.others, l...)
	}
	for i := range 3 {
		p := &believer{who: uint64(i), d: disk.New()}
		w.folk = append(w.folk, p)
		w.opens(p)
	}
	return w
}

// opens: P14.3: the floor is what it was; the life is one more.
func (w *liar) opens(p *believer) {
	floor := w.all[0].h
	if p.c != nil {
		floor = p.c.Floor()
	}
	p.d.Crash(w.r.Intn(50))
	p.c = opened(w.t, p.d, "key", 4, p.who)
	p.life++
	if p.c.Floor() != floor || p.c.Life() != p.life || p.c.Alarmed() {
		w.t.Fatalf("opened at %s, in life %d", brief(p.c.Floor()), p.c.Life())
	}
	p.count, p.swapped, p.refused = 0, nil, nil
}

// some: names' keys.
func (w *liar) some(most int) []string {
	var out []string
	for range w.r.Intn(most) {
		out = append(out, key(w.r.Intn(names)))
	}
	return out
}

// asks: a look, or a swap, if the view tells enough for it.
func (w *liar) asks(p *believer) {
	p.swapped = nil
	if w.r.Intn(2) == 0 && w.swaps(p) {
		return
	}
	p.keys, p.under = w.some(4), nil
	for range w.r.Intn(2) {
		p.under = append(p.under, api.Prefix{Key: key(w.r.Intn(99)), Bits: w.r.Intn(5)})
	}
	if _, err := p.c.Look(p.keys, p.under); err != api.OK {
		w.t.Fatalf("Look: %d", err)
	}
	p.count++
}

func (w *liar) swaps(p *believer) bool {
	var l []api.Pair
	for _, k := range w.some(3) {
		l = append(l, api.Pair{Key: k, Val: fmt.Sprint(w.r.Intn(3))})
	}
	d, stamp := w.some(3), uint64(w.r.Intn(2))
	cmd, err := p.c.Swap(l, d, stamp)
	if err != api.OK {
		return false
	}
	p.count++
	ahead := w.by[p.c.Floor()]
	m := ahead.m.with(l, d)
	h := ahead.h.Header
	next := sealed("key", api.Header{Shard: 4, Seq: h.Seq + 1, Prev: plainHash(h), Root: m.root(), Who: p.who, Stamp: stamp})
	if cmd != swapBytes(p.who, p.life<<32+p.count, next, l, d) {
		w.t.Fatal("another header is signed")
	}
	if w.by[next] == nil {
		w.by[next] = &signedOne{h: next, ahead: ahead, m: m}
		w.all = append(w.all, w.by[next])
	}
	p.swapped = w.by[next]
	return true
}

// between: the headers behind from, up to to, and whether to comes of from.
func between(from, to *signedOne) ([]api.Signed, bool) {
	var out []api.Signed
	for ; to != nil; to = to.ahead {
		if to == from {
			slices.Reverse(out)
			return out, true
		}
		out = append(out, to.h)
	}
	return nil, false
}

// truth: what a shard of one of the stories would answer; which header that leads to, and what must come of it.
func (w *liar) truth(p *believer) (string, *signedOne, api.Errno) {
	serial := p.life<<32 + p.count
	switch {
	case p.swapped != nil && w.r.Intn(3) == 0:
		return word(serial, api.Other), w.by[p.c.Floor()], api.ErrConflict
	case p.swapped != nil:
		return word(serial, api.Done), p.swapped, api.OK
	}
	from := w.by[p.c.Floor()]
	var ends []*signedOne
	for _, x := range w.all {
		if _, ok := between(from, x); ok {
			ends = append(ends, x)
		}
	}
	to := ends[w.r.Intn(len(ends))]
	l, _ := between(from, to)
	shown := shows(w.t, to.m, p.keys, p.under...)
	w.texts = append(w.texts, shown)
	for _, x := range p.refused {
		if slices.Contains(l, x.h) {
			w.counts["refused"]++
			return story(serial, l, shown), from, api.ErrTamper
		}
	}
	return story(serial, l, shown), to, api.OK
}

// lie: any answer.
func (w *liar) lie(p *believer) string {
	serial := p.life<<32 + p.count
	right, _, _ := w.truth(p)
	switch w.r.Intn(8) {
	case 0:
		return word(serial, w.r.Intn(7))
	case 1:
		return word(serial+uint64(w.r.Intn(3))-1, 1+w.r.Intn(3))
	case 2:
		b := []byte(right)
		b[w.r.Intn(len(b))] ^= 1 << w.r.Intn(8)
		return string(b)
	case 3:
		return right[:w.r.Intn(len(right))]
	}
	to := w.all[w.r.Intn(len(w.all))]
	l, _ := between(w.by[p.c.Floor()], to)
	shown := shows(w.t, to.m, p.keys, p.under...)
	switch w.r.Intn(4) {
	case 0:
		shown = w.texts[w.r.Intn(len(w.texts))]
	case 1:
		shown = shows(w.t, w.all[w.r.Intn(len(w.all))].m, p.keys, p.under...)
	}
	for range w.r.Intn(3) {
		l = w.spoilt(l)
	}
	return story(serial, l, shown)
}

// spoilt: a list of headers, with one less, one more, or one another.
func (w *liar) spoilt(l []api.Signed) []api.Signed {
	l = slices.Clone(l)
	x := w.all[w.r.Intn(len(w.all))].h
	if w.r.Intn(3) == 0 {
		x = w.others[w.r.Intn(len(w.others))]
	}
	if len(l) == 0 || w.r.Intn(3) == 0 {
		return slices.Insert(l, w.r.Intn(len(l)+1), x)
	}
	i := w.r.Intn(len(l))
	switch w.r.Intn(5) {
	case 0:
		return slices.Delete(l, i, i+1)
	case 1:
		l[i] = x
	case 2:
		l[i].Mac = x.Mac
	case 3:
		l[i].Header.Root = x.Header.Root
	case 4:
		l[i].Header.Stamp++
	}
	return l
}

// hears: P14.2 of one answer; of one that isn't a lie that must come of it, and the floor be there.
func (w *liar) hears(p *believer, answer string, to *signedOne, want api.Errno) {
	from := w.by[p.c.Floor()]
	swapped := p.swapped
	err := p.c.Heard(answer)
	now := w.by[p.c.Floor()]
	if now == nil {
		w.t.Fatalf("a floor that nobody signed: %s", brief(p.c.Floor()))
	}
	l, ok := between(from, now)
	if !ok || err != api.OK && now != from || to != nil && (err != want || now != to) {
		w.t.Fatalf("%d: from %s to %s", err, brief(from.h), brief(now.h))
	}
	switch err {
	case api.OK:
		w.counts["taken"]++
		for _, x := range p.refused {
			if swapped == nil && slices.Contains(l, x.h) {
				w.t.Fatal("what was refused is taken")
			}
		}
		w.reads(p, now)
	case api.ErrConflict:
		w.counts["other"]++
		p.refused = append(p.refused, swapped)
	case api.ErrLost:
		w.counts["lost"]++
		return
	case api.ErrTamper:
		w.counts["tamper"]++
		if !p.c.Alarmed() {
			w.t.Fatal("not alarmed")
		}
	default:
		w.t.Fatalf("%d", err)
	}
	if _, ok := p.c.Pending(); ok {
		w.t.Fatal("still pending")
	}
	if p.c.Alarmed() {
		w.opens(p)
	}
}

// reads: what it reads is what the map had at that header; of a look all that it asked for.
func (w *liar) reads(p *believer, at *signedOne) {
	for i := range names {
		want, there := at.m[key(i)]
		v, found, err := p.c.Get(key(i))
		if err == api.OK && (v != want || found != there) {
			w.t.Fatalf("at %d: %q, %t; asked for %q, %t", i, v, found, want, there)
		}
		if err != api.OK && p.swapped == nil && slices.Contains(p.keys, key(i)) {
			w.t.Fatalf("%d was asked for", i)
		}
		n := w.r.Intn(6)
		if l, err := p.c.Under(key(i), n); err == api.OK && !slices.Equal(l, at.m.under(key(i), n)) {
			w.t.Fatalf("under %d, %d bits: %s", i, n, brief(l))
		}
	}
	if p.swapped == nil {
		for _, u := range p.under {
			if _, err := p.c.Under(u.Key, u.Bits); err != api.OK {
				w.t.Fatal("a prefix was asked for")
			}
		}
	}
}

// P14.2: a keeper that tells many stories, and lies: each header that is taken was signed, each following the one ahead, and what is read is what the map had there.
func TestLiar(t *testing.T) {
	all := map[string]int{}
	for seed := range int64(24) {
		w := newLiar(t, seed)
		for range 600 {
			p := w.folk[w.r.Intn(len(w.folk))]
			if _, ok := p.c.Pending(); !ok {
				w.asks(p)
			}
			if w.r.Intn(3) > 0 {
				answer, to, want := w.truth(p)
				w.hears(p, answer, to, want)
			} else {
				w.hears(p, w.lie(p), nil, api.OK)
			}
		}
		for what, n := range w.counts {
			all[what] += n
		}
		all["signed"] += len(w.all)
	}
	for _, what := range []string{"taken", "other", "lost", "tamper", "refused", "signed"} {
		if all[what] < 100 {
			t.Errorf("%s: %d times of %v", what, all[what], all)
		}
	}
}
