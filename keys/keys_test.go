package keys

import (
	"bytes"
	"testing"

	"godwit/api"
)

// all are all keys of up to two of some bytes, and some longer ones.
func all() [][]byte {
	var l [][]byte
	some := []byte{0, 1, 'a', 255}
	for _, a := range some {
		l = append(l, []byte{a})
		for _, b := range some {
			l = append(l, []byte{a, b}, []byte{a, b, 0})
		}
	}
	return l
}

// ranges are ranges of these, from nothing on too, and Open ones.
func ranges() []api.Range {
	var l []api.Range
	ends := append(all(), nil)
	for i, lo := range ends {
		l = append(l, api.Range{Lo: lo, Open: true})
		for j, hi := range ends {
			if (i+j)%3 == 0 {
				l = append(l, api.Range{Lo: lo, Hi: hi})
			}
		}
	}
	return append(l, api.Range{}, api.Range{Hi: []byte{0}}, api.Range{Hi: []byte{0, 0}}, api.Range{Hi: []byte{1}})
}

func texts(l ...string) [][]byte {
	var b [][]byte
	for _, s := range l {
		b = append(b, []byte(s))
	}
	return b
}

func same(a, b [][]byte) bool {
	return len(a) == len(b) && bytes.Equal(bytes.Join(a, []byte("|")), bytes.Join(b, []byte("|")))
}

func TestCmp(t *testing.T) {
	for _, x := range []struct {
		a, b string
		want int
	}{{"", "", 0}, {"", "a", -1}, {"a", "", 1}, {"a", "a", 0}, {"a", "b", -1}, {"ab", "b", -1}, {"a", "ab", -1}, {"ab", "a", 1}, {"a\xff", "b", -1}, {"\x80", "\x7f", 1}, {"", "\x00", -1}} {
		if got := Cmp([]byte(x.a), []byte(x.b)); got != x.want {
			t.Errorf("%q %q %d", x.a, x.b, got)
		}
	}
	if Cmp(nil, []byte{}) != 0 {
		t.Error("nil")
	}
}

func TestSane(t *testing.T) {
	for n := range 20 {
		if Sane(make([]byte, n)) != (n >= 1 && n <= 16) {
			t.Error(n)
		}
		b := make([]byte, n)
		if SaneRange(api.Range{Lo: b}) != (n <= 17) || SaneRange(api.Range{Hi: b}) != (n <= 17) || SaneRange(api.Range{Hi: b, Open: true}) != (n == 0) || SaneRange(api.Range{Lo: b, Open: true}) != (n <= 17) {
			t.Error("range", n)
		}
	}
}

func TestHas(t *testing.T) {
	for _, x := range []struct {
		lo, hi string
		open   bool
		k      string
		want   bool
	}{{"", "b", false, "a", true}, {"", "b", false, "b", false}, {"a", "b", false, "a", true}, {"a", "b", false, "azz", true}, {"b", "c", false, "a", false}, {"b", "", true, "z", true}, {"b", "", true, "b", true}, {"b", "", true, "a", false}, {"b", "a", true, "z", true}, {"", "", false, "", false}, {"", "", true, "", true}} {
		if got := Has(api.Range{Lo: []byte(x.lo), Hi: []byte(x.hi), Open: x.open}, []byte(x.k)); got != x.want {
			t.Error(x)
		}
	}
}

func TestEmpty(t *testing.T) {
	for _, x := range []struct {
		lo, hi string
		open   bool
		want   bool
	}{{"", "", false, true}, {"", "", true, false}, {"a", "a", false, true}, {"a", "a\x00", false, false}, {"b", "a", false, true}, {"b", "a", true, false}, {"", "\x00", false, true}, {"", "\x00\x00", false, false}, {"", "\x01", false, false}, {"\x00", "\x00", false, true}, {"\x00", "\x00\x00", false, false}} {
		if got := Empty(api.Range{Lo: []byte(x.lo), Hi: []byte(x.hi), Open: x.open}); got != x.want {
			t.Error(x)
		}
	}
	for _, r := range ranges() {
		for _, k := range all() {
			if Empty(r) && Has(r, k) {
				t.Error(r, k)
			}
		}
	}
}

func TestMeet(t *testing.T) {
	a, b, c, d := []byte("a"), []byte("b"), []byte("c"), []byte("d")
	for k, x := range []struct {
		p, q, want api.Range
		ok         bool
	}{
		{api.Range{Lo: a, Hi: c}, api.Range{Lo: b, Hi: d}, api.Range{Lo: b, Hi: c}, true},
		{api.Range{Lo: b, Hi: d}, api.Range{Lo: a, Hi: c}, api.Range{Lo: b, Hi: c}, true},
		{api.Range{Lo: a, Hi: b}, api.Range{Lo: b, Hi: d}, api.Range{}, false},
		{api.Range{Lo: a, Open: true}, api.Range{Hi: c}, api.Range{Lo: a, Hi: c}, true},
		{api.Range{Lo: a, Hi: d}, api.Range{Lo: b, Open: true}, api.Range{Lo: b, Hi: d}, true},
		{api.Range{Lo: a, Open: true}, api.Range{Lo: b, Open: true}, api.Range{Lo: b, Open: true}, true},
		{api.Range{Lo: a, Hi: c, Open: true}, api.Range{Lo: b, Hi: d, Open: true}, api.Range{Lo: b, Hi: c, Open: true}, true},
		{api.Range{Lo: a, Hi: d, Open: true}, api.Range{Lo: a, Hi: c}, api.Range{Lo: a, Hi: c}, true},
		{api.Range{}, api.Range{Open: true}, api.Range{}, false},
		{api.Range{Hi: []byte{0}}, api.Range{Open: true}, api.Range{}, false},
	} {
		m, ok := Meet(x.p, x.q)
		if ok != x.ok || m.Open != x.want.Open || !bytes.Equal(m.Lo, x.want.Lo) || !bytes.Equal(m.Hi, x.want.Hi) {
			t.Error(k, m, ok)
		}
	}
}

func TestWhatIsInBothIsInWhatTheyMeetIn(t *testing.T) {
	for _, a := range ranges() {
		for _, b := range ranges() {
			m, ok := Meet(a, b)
			for _, k := range all() {
				if both := Has(a, k) && Has(b, k); both != (ok && Has(m, k)) {
					t.Fatal(a, b, m, ok, k)
				}
			}
		}
	}
}

func TestOneHasItsKeyAlone(t *testing.T) {
	for _, k := range append(all(), make([]byte, 16)) {
		for _, other := range all() {
			if Has(One(k), other) != bytes.Equal(k, other) {
				t.Error(k, other)
			}
		}
		if !SaneRange(One(k)) || Empty(One(k)) {
			t.Error(k)
		}
	}
	room := []byte("abc")
	if One(room[:1]); string(room) != "abc" {
		t.Error("spare room changed")
	}
}

func TestFindAndInsert(t *testing.T) {
	l := texts("b", "d", "f")
	for _, x := range []struct {
		k    string
		at   int
		ok   bool
		want [][]byte
	}{{"a", 0, false, texts("a", "b", "d", "f")}, {"b", 0, true, l}, {"c", 1, false, texts("b", "c", "d", "f")}, {"f", 2, true, l}, {"g", 3, false, texts("b", "d", "f", "g")}, {"", 0, false, texts("", "b", "d", "f")}} {
		at, ok := Find(l, []byte(x.k))
		if at != x.at || ok != x.ok {
			t.Error(x.k, at, ok)
		}
		if got := Insert(l, []byte(x.k)); !same(got, x.want) {
			t.Errorf("%s %q", x.k, got)
		}
	}
	if at, ok := Find(nil, nil); at != 0 || ok || !same(Insert(nil, []byte("a")), texts("a")) {
		t.Error("nothing")
	}
	// Of one that is not Sorted: the first that is not ahead.
	odd := texts("d", "a", "z", "b")
	if at, ok := Find(odd, []byte("b")); at != 0 || ok || !same(Insert(odd, []byte("b")), texts("b", "d", "a", "z", "b")) {
		t.Error("odd", at, ok)
	}
	if at, ok := Find(odd, []byte("e")); at != 2 || ok {
		t.Error("odd", at, ok)
	}
}

func TestInsertIsNewMemory(t *testing.T) {
	room := texts("b", "d", "f")
	for _, k := range []string{"a", "b", "z"} {
		got := Insert(room[:2], []byte(k))
		for i := range got {
			got[i][0] = 'x'
			got[i] = nil
		}
		if !same(room, texts("b", "d", "f")) {
			t.Fatal("shared")
		}
	}
}

func TestSorted(t *testing.T) {
	for k, x := range []struct {
		l  [][]byte
		ok bool
	}{{nil, true}, {texts("x"), true}, {texts("a", "b", "c"), true}, {texts("a", "a"), false}, {texts("a", "c", "b"), false}, {texts("", "a"), true}, {texts("a", "ab", "b"), true}, {texts("ab", "a"), false}} {
		if Sorted(x.l) != x.ok {
			t.Error(k)
		}
	}
}
