package cipher

import (
	"fmt"
	"strings"
	"testing"

	"vidimus/api"
	"vidimus/tape"
	"vidimus/trie"
)

// at: that is the place, and OK.
func at(t *testing.T, what, want string) func(string, api.Errno) {
	t.Helper()
	return func(got string, err api.Errno) {
		t.Helper()
		if got != want || err != api.OK {
			t.Errorf("%s: %x, %d; asked for %x", what, got, err, want)
		}
	}
}

// below: that is the prefix of these bytes, and OK.
func below(t *testing.T, what, want string) func(api.Prefix, api.Errno) {
	t.Helper()
	return func(got api.Prefix, err api.Errno) {
		t.Helper()
		key := want + strings.Repeat("\x00", 32-len(want))
		if got != (api.Prefix{Key: key, Bits: 8 * len(want)}) || err != api.OK {
			t.Errorf("%s: %x, %d, %d; asked for %x", what, got.Key, got.Bits, err, want)
		}
	}
}

// nowhere, underNothing: there is no such place, no such prefix.
func nowhere(t *testing.T, what string) func(string, api.Errno) {
	t.Helper()
	return func(got string, err api.Errno) {
		t.Helper()
		if got != "" || err != api.ErrArg {
			t.Errorf("%s: %x, %d", what, got, err)
		}
	}
}

func underNothing(t *testing.T, what string) func(api.Prefix, api.Errno) {
	t.Helper()
	return func(got api.Prefix, err api.Errno) {
		t.Helper()
		if got != (api.Prefix{}) || err != api.ErrArg {
			t.Errorf("%s: %x, %d, %d", what, got.Key, got.Bits, err)
		}
	}
}

// P15.1: places that were worked out elsewhere.
func TestPlacesKnown(t *testing.T) {
	k := New("master", nil)
	at(t, "a table", unhex("4a1ce28c1c8d4343d3d38e04232ffefe1053470f5cdd2eb8f1fd483f48c1e535"))(k.Catalog("t"))
	at(t, "no name", unhex("da14de9ee570cb98abd447f6e753f02d1a5ccf307a13b40ffed2a0869d23d1d9"))(New("", nil).Catalog(""))
	at(t, "7", unhex("e4cfcf60ddf832e42d68ee56f85b7c97fad42da245c10a0dfd8b4ddd223fbf62"))(k.Row("t", number(7)))
	at(t, "-1", unhex("e4cfcf60ddf832e40e379f36a0693629874d56adfab7a62bcb603086188bcafc"))(k.Row("t", number(-1)))
	at(t, "-2^63", unhex("e4cfcf60ddf832e41246d0bad0338ab714b5cfea851e0516403e73c2acb7244c"))(k.Row("t", number(-1<<63)))
	at(t, "nothing", unhex("e4cfcf60ddf832e48782e3daaff1f8cfeb27581554484b4ba054575057e5c33e"))(k.Row("t", null()))
	at(t, "seven", unhex("e4cfcf60ddf832e4de32e23639910a2f21fdb134c29d69189a4ee8a29bdeb8cc"))(k.Row("t", word("seven")))
	at(t, "seven of 7", unhex("ecc744c07683742cf06957db3b205cdc2d68ee56f85b7c97fad42da245c10a0d"))(k.Entry("t", "a", word("seven"), number(7)))
	at(t, "nothing of no letter", unhex("40d75875a53c19036d7f3dfe9c38bb5dbc05eab2a78138b9b014730cabc5fdbd"))(k.Entry("t", "a", null(), word("")))
	below(t, "rows", unhex("e4cfcf60ddf832e4"))(k.Rows("t"))
	below(t, "entries", unhex("ecc744c07683742cf06957db3b205cdc"))(k.Entries("t", "a", word("seven")))
	below(t, "entries of nothing", unhex("40d75875a53c19036d7f3dfe9c38bb5d"))(k.Entries("t", "a", null()))
}

// P15.1: all places, by the words of the chapter.
func TestPlaces(t *testing.T) {
	for _, master := range masters() {
		var c Cipher = New(master, nil)
		p := plain{master}
		for i, table := range names() {
			col := names()[(i*7+3)%len(names())]
			at(t, "catalog", p.catalog(table))(c.Catalog(table))
			below(t, "rows", p.rows(table))(c.Rows(table))
			for j, v := range values() {
				key := values()[(j*5+i)%len(values())]
				what := fmt.Sprint(name(table), name(col), name(v), name(key))
				at(t, what, p.row(table, v))(c.Row(table, v))
				at(t, what, p.entry(table, col, v, key))(c.Entry(table, col, v, key))
				below(t, what, p.entries(table, col, v))(c.Entries(table, col, v))
			}
		}
	}
}

// P15.1: of what is no value there is no place.
func TestPlacesNoValue(t *testing.T) {
	k := New("master", nil)
	for _, bad := range noValues() {
		what := name(bad)
		nowhere(t, what)(k.Row("t", bad))
		underNothing(t, what)(k.Entries("t", "a", bad))
		for _, v := range values() {
			nowhere(t, what)(k.Entry("t", "a", bad, v))
			nowhere(t, what)(k.Entry("t", "a", v, bad))
		}
		nowhere(t, what)(k.Entry("t", "a", bad, bad))
	}
}

// P15.1: of a nil cipher there is no place, and no cell; of one that New didn't make it is as of no master, and no tape.
func TestNil(t *testing.T) {
	var none *Keys
	for _, v := range append(values(), noValues()...) {
		nowhere(t, "Row")(none.Row("t", v))
		nowhere(t, "Entry")(none.Entry("t", "a", v, v))
		underNothing(t, "Entries")(none.Entries("t", "a", v))
	}
	nowhere(t, "Catalog")(none.Catalog("t"))
	underNothing(t, "Rows")(none.Rows("t"))
	for _, s := range []string{"", "hello", strings.Repeat("a", 5000)} {
		nowhere(t, "Seal")(none.Seal("p", s))
	}
	stays(t, "nil", none, "p", plain{}.cell("p", chanceText(16), "hello"))
	stays(t, "nil", none, "", "")
	// what the key of no byte would have sealed
	hidden := strings.Repeat("h", 48)
	stays(t, "nil", none, "p", hidden+sealOf("", "p"+hidden)[:16])
	made := new(Keys)
	at(t, "Catalog", plain{}.catalog("t"))(made.Catalog("t"))
	opens(t, "a new one", made, "p", plain{}.cell("p", chanceText(16), "hello"), "hello")
	if s, err := made.Seal("p", "hello"); s != "" || err != api.ErrEntropy {
		t.Errorf("%x, %d", s, err)
	}
}

// P15.1: all rows of a table stand under its prefix, all entries of a value under that one's, and nothing else does; no two things stand at one place.
func TestPlacesApart(t *testing.T) {
	k := New("master", nil)
	all, count := trie.New(), 0
	put := func(place string, err api.Errno) {
		if err != api.OK || len(place) != 32 {
			t.Errorf("%x, %d", place, err)
		}
		all, count = all.Put(place, ""), count+1
	}
	some, keys := values()[:16], values()[8:20]
	for _, table := range names() {
		put(k.Catalog(table))
		for _, key := range keys {
			put(k.Row(table, key))
		}
		for _, col := range names() {
			for _, v := range some {
				for _, key := range keys[:3] {
					put(k.Entry(table, col, v, key))
				}
			}
		}
	}
	if all.Len() != count {
		t.Errorf("%d things at %d places", count, all.Len())
	}
	for _, table := range names() {
		rows, _ := k.Rows(table)
		if got := len(all.Under(rows.Key, rows.Bits)); got != len(keys) {
			t.Errorf("%s: %d rows", name(table), got)
		}
		for _, v := range some {
			entries, _ := k.Entries(table, "a", v)
			if got := len(all.Under(entries.Key, entries.Bits)); got != 3 {
				t.Errorf("%s, %s: %d entries", name(table), name(v), got)
			}
		}
	}
}

// P15.1, R7: places hang on the master and on nothing else: not on the tape, nor on what was done; they take no chance.
func TestPlacesAlone(t *testing.T) {
	tapes := []*tape.Tape{nil, tape.New(""), chance(1000)}
	for _, master := range masters() {
		for _, x := range tapes {
			k := New(master, x)
			for range 2 {
				taken := x.Taken()
				at(t, "Catalog", plain{master}.catalog("t"))(k.Catalog("t"))
				at(t, "Row", plain{master}.row("t", number(1)))(k.Row("t", number(1)))
				at(t, "Entry", plain{master}.entry("t", "a", word("x"), number(1)))(k.Entry("t", "a", word("x"), number(1)))
				below(t, "Rows", plain{master}.rows("t"))(k.Rows("t"))
				below(t, "Entries", plain{master}.entries("t", "a", word("x")))(k.Entries("t", "a", word("x")))
				if x.Taken() != taken {
					t.Errorf("%d bytes taken", x.Taken()-taken)
				}
				k.Seal("p", "hello")
				k.Row("t", noValues()[0])
			}
		}
		for _, other := range masters() {
			a, _ := New(master, nil).Catalog("t")
			b, _ := New(other, nil).Catalog("t")
			if a == b && master != other {
				t.Errorf("%s, %s: one place", name(master), name(other))
			}
		}
	}
}

// P15.1: of names just as long as a list's bytes may be there are places; longer ones have no token.
func TestPlacesLong(t *testing.T) {
	k, p := New("master", nil), plain{"master"}
	long := func(what string) string {
		return strings.Repeat("t", api.MaxBytes-len(list(text(what), text(""))+"\x80\x80\x80"))
	}
	at(t, "Catalog", p.catalog(long("catalog")))(k.Catalog(long("catalog")))
	nowhere(t, "Catalog")(k.Catalog(long("catalog") + "t"))
	below(t, "Rows", p.rows(long("rows")))(k.Rows(long("rows")))
	underNothing(t, "Rows")(k.Rows(long("rows") + "t"))
	// of "rows" and such a table there is a token, of "row", it and a key there is none
	nowhere(t, "Row")(k.Row(long("rows"), number(1)))
	table := long("rows")[:api.MaxBytes-100]
	at(t, "Row", p.row(table, number(1)))(k.Row(table, number(1)))
	at(t, "Entry", p.entry(table, "a", number(1), number(2)))(k.Entry(table, "a", number(1), number(2)))
	nowhere(t, "Entry")(k.Entry(table, long("rows"), number(1), number(2)))
	nowhere(t, "Entry")(k.Entry("t", long("rows"), number(1), number(2)))
	underNothing(t, "Entries")(k.Entries("t", long("rows"), number(1)))
	for _, n := range []int{api.MaxBytes, api.MaxBytes + 1, 2 * api.MaxBytes} {
		huge := strings.Repeat("t", n)
		nowhere(t, "Catalog")(k.Catalog(huge))
		nowhere(t, "Row")(k.Row(huge, number(1)))
		underNothing(t, "Rows")(k.Rows(huge))
		nowhere(t, "Entry")(k.Entry(huge, "a", number(1), number(1)))
		underNothing(t, "Entries")(k.Entries(huge, "a", number(1)))
	}
}
