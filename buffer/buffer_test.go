package buffer

import (
	"testing"

	"godwit/api"
)

func put(k, v string) api.Write    { return api.Write{Key: []byte(k), Val: []byte(v)} }
func del(k string) api.Write       { return api.Write{Key: []byte(k), Del: true} }
func of(l ...api.Write) Buf        { return Buf{L: l} }
func kv(k, v string) api.KV        { return api.KV{Key: []byte(k), Val: []byte(v)} }
func from(lo, hi string) api.Range { return api.Range{Lo: []byte(lo), Hi: []byte(hi)} }

// tell is keys and values as a text.
func tell(l []api.KV) string {
	out := ""
	for _, x := range l {
		out += string(x.Key) + "=" + string(x.Val) + " "
	}
	return out
}

// tellBuf is writes as a text.
func tellBuf(b Buf) string {
	out := ""
	for _, w := range b.L {
		out += string(w.Key)
		if w.Del {
			out += "- "
		} else {
			out += "=" + string(w.Val) + " "
		}
	}
	return out
}

// full has 16 writes, of the keys b, d, f and so on.
func full() Buf {
	b := Buf{}
	for i := range 16 {
		b.L = append(b.L, put(string(rune('b'+2*i)), "v"))
	}
	return b
}

func TestSane(t *testing.T) {
	long := string(make([]byte, 33))
	for k, x := range []struct {
		b  Buf
		ok bool
	}{
		{of(), true}, {of(put("a", "")), true}, {of(put("a", "1"), del("b")), true}, {full(), true}, {of(put("a", long[:32])), true}, {of(put(long[:16], "")), true},
		{of(put("a", ""), put("a", "")), false}, {of(put("b", ""), put("a", "")), false}, {of(put("", "")), false}, {of(put(long[:17], "")), false}, {of(put("a", long)), false},
		{of(api.Write{Key: []byte("a"), Val: []byte("v"), Del: true}), false}, {of(append([]api.Write{put("a", "")}, full().L...)...), false},
	} {
		if Sane(x.b) != x.ok {
			t.Error(k)
		}
	}
}

func TestSet(t *testing.T) {
	b := Buf{}
	for k, x := range []struct {
		w    api.Write
		want string
	}{{put("m", "1"), "m=1 "}, {put("a", "2"), "a=2 m=1 "}, {put("z", "3"), "a=2 m=1 z=3 "}, {del("m"), "a=2 m- z=3 "}, {put("n", ""), "a=2 m- n= z=3 "}, {put("m", "4"), "a=2 m=4 n= z=3 "}} {
		was := tellBuf(b)
		next, e := Set(b, x.w)
		if e != api.OK || tellBuf(next) != x.want || tellBuf(b) != was {
			t.Error(k, tellBuf(next), e)
		}
		b = next
	}
}

func TestSetRefuses(t *testing.T) {
	for k, x := range []struct {
		b Buf
		w api.Write
		e api.Errno
	}{
		{of(put("b", ""), put("a", "")), put("c", ""), api.ErrArg}, {of(), put("", ""), api.ErrArg}, {full(), put("", ""), api.ErrArg}, {of(), put("a", string(make([]byte, 33))), api.ErrArg},
		{of(), api.Write{Key: []byte("a"), Val: []byte("v"), Del: true}, api.ErrArg}, {full(), put("a", ""), api.ErrBusy}, {full(), del("zz"), api.ErrBusy},
	} {
		if b, e := Set(x.b, x.w); e != x.e || b.L != nil {
			t.Error(k, e)
		}
	}
	if b, e := Set(full(), put("d", "new")); e != api.OK || len(b.L) != 16 {
		t.Error("one that is there", e)
	}
	if b, e := Set(of(full().L[1:]...), put("a", "")); e != api.OK || len(b.L) != 16 {
		t.Error("the 16th", e)
	}
}

func TestGet(t *testing.T) {
	b := of(put("a", "1"), del("b"))
	if w, ok := Get(b, []byte("a")); !ok || string(w.Val) != "1" || w.Del {
		t.Error(w, ok)
	}
	if w, ok := Get(b, []byte("b")); !ok || !w.Del {
		t.Error(w, ok)
	}
	if w, ok := Get(b, []byte("c")); ok || w.Key != nil || w.Val != nil || w.Del {
		t.Error(w, ok)
	}
}

func TestOver(t *testing.T) {
	base := []api.KV{kv("a", "1"), kv("b", "2"), kv("d", "4")}
	all := api.Range{Open: true}
	for k, x := range []struct {
		b    Buf
		l    []api.KV
		r    api.Range
		most int
		want string
	}{
		{of(del("a"), put("c", "3")), base[:2], all, 9, "b=2 c=3 "},
		{of(), base, all, 9, "a=1 b=2 d=4 "}, {of(put("a", "x"), put("e", "5")), base, all, 9, "a=x b=2 d=4 e=5 "}, {of(put("a", "")), nil, all, 9, "a= "},
		{of(del("x")), base, all, 9, "a=1 b=2 d=4 "}, {of(put("0", "0"), del("d")), base, all, 2, "0=0 a=1 "}, {of(), base, all, 0, ""}, {of(), base, all, -5, ""}, {of(), base, all, 1 << 62, "a=1 b=2 d=4 "},
		{of(put("c", "3"), del("d")), base, from("b", "d"), 9, "b=2 c=3 "}, {of(put("a", "x"), put("d", "x")), base, from("b", "d"), 9, "b=2 "}, {of(), base, from("b", "b"), 9, ""},
		{of(put("b", ""), put("a", "")), base, all, 9, ""}, {of(), []api.KV{kv("b", ""), kv("a", "")}, all, 9, ""}, {of(), []api.KV{kv("a", ""), kv("a", "")}, all, 9, ""},
	} {
		if got := tell(Over(x.b, x.l, x.r, x.most)); got != x.want {
			t.Error(k, got)
		}
	}
	if tell(base) != "a=1 b=2 d=4 " {
		t.Error("changed")
	}
}

func TestTouches(t *testing.T) {
	b := of(put("b", ""), del("d"))
	for _, x := range []struct {
		r    api.Range
		want bool
	}{{from("a", "b"), false}, {from("a", "c"), true}, {from("c", "d"), false}, {from("c", "e"), true}, {api.Range{Lo: []byte("e"), Open: true}, false}, {api.Range{Open: true}, true}, {api.Range{}, false}} {
		if Touches(b, x.r) != x.want {
			t.Error(x)
		}
	}
	if Touches(Buf{}, api.Range{Open: true}) {
		t.Error("nothing")
	}
}

func TestOneReadsWhatOneWrote(t *testing.T) {
	b := Buf{}
	plain := map[string]string{"k0": "base", "k5": "base"}
	base := []api.KV{kv("k0", "base"), kv("k5", "base")}
	for i := range 200 {
		k := "k" + string(rune('0'+i*7%10))
		w := put(k, string(rune('A'+i%26)))
		if i%3 == 0 {
			w = del(k)
			delete(plain, k)
		} else {
			plain[k] = string(w.Val)
		}
		var e api.Errno
		if b, e = Set(b, w); e != api.OK || !Sane(b) {
			t.Fatal(e)
		}
		if g, ok := Get(b, []byte(k)); !ok || g.Del != w.Del || string(g.Val) != string(w.Val) {
			t.Fatal(g, ok)
		}
		l := Over(b, base, api.Range{Open: true}, 99)
		if len(l) != len(plain) {
			t.Fatal(tell(l))
		}
		for _, x := range l {
			if plain[string(x.Key)] != string(x.Val) {
				t.Fatal(tell(l))
			}
		}
	}
}
