package reads

import (
	"slices"
	"strconv"
	"testing"

	"godwit/api"
	"godwit/keys"
)

// from is the range from lo on, below hi.
func from(lo, hi string) api.Range { return api.Range{Lo: []byte(lo), Hi: []byte(hi)} }

// tell is reads as a text.
func tell(t Table) string {
	out := ""
	for _, x := range t.L {
		out += strconv.Itoa(x.Tx) + ":" + string(x.Rng.Lo) + "-" + string(x.Rng.Hi)
		if x.Rng.Open {
			out += "*"
		}
		out += " "
	}
	return out
}

// must adds, and fails the test if that is refused.
func must(t *testing.T, x Table, tx int, r api.Range) Table {
	t.Helper()
	y, e := Add(x, tx, r)
	if e != api.OK || !Sane(y) {
		t.Fatal(tx, r, e)
	}
	return y
}

// example are reads of three.
func example(t *testing.T) Table {
	x := must(t, Table{}, 7, from("a", "c"))
	x = must(t, x, 2, api.Range{Lo: []byte("b"), Open: true})
	x = must(t, x, 7, from("b", "d"))
	return must(t, x, 0, keys.One([]byte("b")))
}

// full are 128 reads.
func full() Table {
	x := Table{}
	for i := range 128 {
		x.L = append(x.L, Read{Tx: i, Rng: from("a", "b")})
	}
	return x
}

func TestSane(t *testing.T) {
	r := from("a", "b")
	for k, x := range []struct {
		l  []Read
		ok bool
	}{
		{nil, true}, {[]Read{{0, r}}, true}, {[]Read{{-1, r}}, false}, {[]Read{{1, r}, {1, r}}, false}, {[]Read{{1, r}, {2, r}}, true},
		{[]Read{{1, from("b", "a")}}, false}, {[]Read{{1, from("", "\x00")}}, false}, {[]Read{{1, api.Range{Hi: []byte("b"), Open: true}}}, false}, {[]Read{{1, from("", "123456789012345678")}}, false}, {[]Read{{1, from("", "12345678901234567")}}, true},
		{[]Read{{1, api.Range{Lo: []byte("a"), Open: true}}, {1, from("a", "b")}}, true}, {[]Read{{1, api.Range{Open: true}}, {1, api.Range{Lo: []byte{}, Open: true}}}, false},
		{full().L, true}, {append(full().L, Read{200, r}), false},
	} {
		if Sane(Table{L: x.l}) != x.ok {
			t.Error(k)
		}
	}
}

func TestAdd(t *testing.T) {
	x := example(t)
	if tell(x) != "7:a-c 2:b-* 7:b-d 0:b-b\x00 " {
		t.Errorf("%q", tell(x))
	}
	if y := must(t, x, 7, from("a", "c")); tell(y) != tell(x) {
		t.Error("one that is there", tell(y))
	}
	if y := must(t, full(), 5, from("a", "b")); len(y.L) != 128 {
		t.Error("one that is there, of a full one")
	}
	for k, z := range []struct {
		t  Table
		tx int
		r  api.Range
		e  api.Errno
	}{
		{Table{L: []Read{{-1, from("a", "b")}}}, 1, from("a", "b"), api.ErrArg}, {x, -1, from("a", "b"), api.ErrArg}, {x, 1, from("b", "b"), api.ErrArg}, {x, 1, api.Range{Hi: []byte("a"), Open: true}, api.ErrArg},
		{full(), -1, from("a", "b"), api.ErrArg}, {full(), 5, from("a", "c"), api.ErrBusy},
	} {
		if y, e := Add(z.t, z.tx, z.r); e != z.e || y.L != nil {
			t.Error(k, e)
		}
	}
	room := Table{L: full().L[:100]}
	if Add(room, 500, from("a", "b")); tell(Table{L: room.L[:101]}) != tell(Table{L: full().L[:101]}) {
		t.Error("spare room changed")
	}
}

func TestHits(t *testing.T) {
	x := example(t)
	for k, want := range map[string][]int{"a": {7}, "b": {0, 2, 7}, "b\x00": {2, 7}, "c": {2, 7}, "d": {2}, "zz": {2}, "": nil, "A": nil} {
		if got := Hits(x, []byte(k)); !slices.Equal(got, want) {
			t.Error(k, got)
		}
	}
}

func TestOfDropKeep(t *testing.T) {
	x := example(t)
	if got := Of(x, 7); len(got) != 2 || string(got[0].Lo) != "a" || string(got[1].Lo) != "b" || len(Of(x, 1)) != 0 {
		t.Error(got)
	}
	for k, y := range []struct {
		txs        []int
		drop, keep string
	}{
		{nil, tell(x), ""}, {[]int{7}, "2:b-* 0:b-b\x00 ", "7:a-c 7:b-d "}, {[]int{9, 0, 2, 2}, "7:a-c 7:b-d ", "2:b-* 0:b-b\x00 "}, {[]int{-1, 5}, tell(x), ""}, {[]int{0, 2, 7}, "", tell(x)},
	} {
		if got := tell(Drop(x, y.txs)); got != y.drop {
			t.Errorf("drop %d %q", k, got)
		}
		if got := tell(Keep(x, y.txs)); got != y.keep {
			t.Errorf("keep %d %q", k, got)
		}
	}
	if tell(x) != tell(example(t)) {
		t.Error("changed")
	}
}

func TestWhoHasReadARangeHasReadEachKeyOfIt(t *testing.T) {
	x := must(t, Table{}, 3, from("b", "d"))
	for a := byte('a'); a <= 'e'; a++ {
		for _, k := range [][]byte{{a}, {a, 0}, {a, 255}} {
			if hit := len(Hits(x, k)) == 1; hit != (a == 'b' || a == 'c') {
				t.Errorf("%q %v", k, hit)
			}
		}
	}
}
