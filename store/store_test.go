package store

import (
	"bytes"
	"strconv"
	"testing"

	"godwit/api"
	"godwit/chain"
)

// put is a write of a text to a key.
func put(k, v string) api.Write { return api.Write{Key: []byte(k), Val: []byte(v)} }

// del is a delete of a key.
func del(k string) api.Write { return api.Write{Key: []byte(k), Del: true} }

// must installs, and fails the test if that is refused.
func must(t *testing.T, s Store, ts int, l ...api.Write) Store {
	t.Helper()
	next, e := Install(s, ts, l)
	if e != api.OK || !Sane(next) || next.Ts != ts {
		t.Fatal(ts, l, e)
	}
	return next
}

// tell is keys and values as a text.
func tell(l []api.KV) string {
	out := ""
	for _, x := range l {
		out += string(x.Key) + "=" + string(x.Val) + " "
	}
	return out
}

// example has been written at 3, 5 and 9.
func example(t *testing.T) Store {
	s := must(t, Store{}, 3, put("a", "1"), put("c", "3"))
	s = must(t, s, 5, del("a"), put("b", "2"), del("x"))
	return must(t, s, 9, put("a", "9"), put("c", ""))
}

// numbered are writes of n keys, rising.
func numbered(from, n int) []api.Write {
	var l []api.Write
	for i := from; i < from+n; i++ {
		l = append(l, put(strconv.Itoa(1000+i), "v"))
	}
	return l
}

func TestSane(t *testing.T) {
	one := chain.Chain{L: []chain.Ver{{Ts: 4}}}
	for k, x := range []struct {
		s  Store
		ok bool
	}{
		{Store{}, true}, {Store{Ts: api.MaxTs}, true}, {Store{Ts: -1}, false}, {Store{Ts: api.MaxTs + 1}, false},
		{Store{Keys: [][]byte{{1}}, Chains: []chain.Chain{one}, Ts: 4}, true},
		{Store{Keys: [][]byte{{1}}, Chains: []chain.Chain{one}, Ts: 3}, false},
		{Store{Keys: [][]byte{{1}}, Ts: 9}, false}, {Store{Chains: []chain.Chain{one}, Ts: 9}, false},
		{Store{Keys: [][]byte{{}}, Chains: []chain.Chain{one}, Ts: 9}, false},
		{Store{Keys: [][]byte{make([]byte, 17)}, Chains: []chain.Chain{one}, Ts: 9}, false},
		{Store{Keys: [][]byte{{1}, {1}}, Chains: []chain.Chain{one, one}, Ts: 9}, false},
		{Store{Keys: [][]byte{{2}, {1}}, Chains: []chain.Chain{one, one}, Ts: 9}, false},
		{Store{Keys: [][]byte{{1}, {2}}, Chains: []chain.Chain{one, one}, Ts: 9}, true},
		{Store{Keys: [][]byte{{1}}, Chains: []chain.Chain{{}}, Ts: 9}, false},
		{Store{Keys: [][]byte{{1}}, Chains: []chain.Chain{{L: []chain.Ver{{Ts: 0}}}}, Ts: 9}, false},
	} {
		if Sane(x.s) != x.ok {
			t.Error(k)
		}
	}
	full := must(t, Store{}, 1, numbered(0, 128)...)
	full.Keys = append(full.Keys, []byte("z"))
	full.Chains = append(full.Chains, one)
	full.Ts = 9
	if Sane(full) {
		t.Error("129 keys")
	}
}

func TestGet(t *testing.T) {
	s := example(t)
	for _, x := range []struct {
		k    string
		snap int
		v    string
		ok   bool
	}{{"a", 2, "", false}, {"a", 3, "1", true}, {"a", 4, "1", true}, {"a", 5, "", false}, {"a", 8, "", false}, {"a", 9, "9", true}, {"a", 1 << 60, "9", true}, {"b", 4, "", false}, {"b", 5, "2", true}, {"c", 9, "", true}, {"x", 9, "", false}, {"zz", 9, "", false}, {"", 9, "", false}, {"a", -1, "", false}} {
		if v, ok := Get(s, []byte(x.k), x.snap); ok != x.ok || string(v) != x.v {
			t.Error(x, v, ok)
		}
	}
	s.Ts = 8
	if v, ok := Get(s, []byte("a"), 3); ok || v != nil {
		t.Error("not sane")
	}
}

func TestScan(t *testing.T) {
	s := example(t)
	all := api.Range{Open: true}
	for k, x := range []struct {
		r          api.Range
		snap, most int
		want       string
	}{
		{all, 2, 9, ""}, {all, 3, 9, "a=1 c=3 "}, {all, 5, 9, "b=2 c=3 "}, {all, 9, 9, "a=9 b=2 c= "}, {all, 9, 2, "a=9 b=2 "}, {all, 5, 1, "b=2 "}, {all, 9, 0, ""}, {all, 9, -1, ""}, {all, 9, 1 << 62, "a=9 b=2 c= "},
		{api.Range{Lo: []byte("b")}, 9, 9, ""}, {api.Range{Lo: []byte("b"), Hi: []byte("c")}, 9, 9, "b=2 "}, {api.Range{Lo: []byte("b"), Open: true}, 9, 9, "b=2 c= "}, {api.Range{Hi: []byte("b")}, 9, 9, "a=9 "},
	} {
		if got := tell(Scan(s, x.r, x.snap, x.most)); got != x.want {
			t.Error(k, got)
		}
	}
	if tell(Latest(s)) != "a=9 b=2 c= " || len(Latest(Store{})) != 0 {
		t.Error("latest", tell(Latest(s)))
	}
	s.Ts = 8
	if Scan(s, all, 3, 9) != nil || Latest(s) != nil {
		t.Error("not sane")
	}
}

func TestInstallRefuses(t *testing.T) {
	s := example(t)
	bad := s
	bad.Ts = 8
	for k, x := range []struct {
		s  Store
		ts int
		l  []api.Write
		e  api.Errno
	}{
		{bad, 10, nil, api.ErrArg}, {s, 9, []api.Write{put("b", ""), put("a", "")}, api.ErrArg}, {s, 10, []api.Write{put("a", ""), put("a", "")}, api.ErrArg},
		{s, 10, []api.Write{put("", "v")}, api.ErrArg}, {s, 10, []api.Write{put("12345678901234567", "v")}, api.ErrArg}, {s, 10, []api.Write{{Key: []byte("a"), Val: make([]byte, 33)}}, api.ErrArg}, {s, 10, []api.Write{{Key: []byte("a"), Val: make([]byte, 1), Del: true}}, api.ErrArg},
		{s, 9, nil, api.ErrState}, {s, -1, nil, api.ErrState}, {s, api.MaxTs + 1, nil, api.ErrState}, {s, 9, numbered(0, 200), api.ErrState},
		{s, 10, numbered(0, 125), api.ErrBusy},
	} {
		if got, e := Install(x.s, x.ts, x.l); e != x.e || got.Keys != nil || got.Chains != nil || got.Ts != 0 {
			t.Error(k, e)
		}
	}
}

func TestInstallUpToItsLimits(t *testing.T) {
	s := must(t, example(t), 10, numbered(0, 124)...)
	if len(s.Keys) != 128 {
		t.Error(len(s.Keys))
	}
	s = must(t, s, api.MaxTs, numbered(100, 20)...)
	if _, e := Install(s, api.MaxTs+1, nil); e != api.ErrState {
		t.Error(e)
	}
	if s := must(t, example(t), 20); tell(Latest(s)) != "a=9 b=2 c= " {
		t.Error("empty writes")
	}
}

func TestInstallLeavesItsInputAlone(t *testing.T) {
	s := example(t)
	room := Store{Keys: append(s.Keys, []byte("z"), []byte("z"))[:len(s.Keys)], Chains: append(s.Chains, chain.Chain{}, chain.Chain{})[:len(s.Chains)], Ts: s.Ts}
	before := tell(Latest(room))
	must(t, room, 10, put("0", "n"), del("a"), put("b", "n"))
	if tell(Latest(room)) != before || string(room.Keys[:5][4]) != "z" {
		t.Error("changed")
	}
}

func TestVacuum(t *testing.T) {
	s := example(t)
	v := Vacuum(s, 1<<60)
	if len(v.Keys) != 3 || len(v.Chains[0].L) != 1 || v.Ts != 9 || !Sane(v) {
		t.Error(v)
	}
	for oldest := -1; oldest < 12; oldest++ {
		v := Vacuum(s, oldest)
		if !Sane(v) || v.Ts != s.Ts {
			t.Fatal(oldest)
		}
		for snap := oldest; snap < 14; snap++ {
			all := api.Range{Open: true}
			if tell(Scan(v, all, snap, 99)) != tell(Scan(s, all, snap, 99)) {
				t.Error(oldest, snap)
			}
		}
	}
	// Brought to Ts at most, or a delete that comes later would be seen too early.
	if v := Vacuum(must(t, Store{}, 5, del("a")), 4); len(v.Keys) != 1 {
		t.Error("a delete behind oldest stays")
	}
	s.Ts = 8
	if v := Vacuum(s, 9); len(v.Keys) != 4 || v.Ts != 8 || len(v.Chains[0].L) != 3 {
		t.Error("not sane")
	}
}

func TestWroteAndChanged(t *testing.T) {
	s := example(t)
	for _, x := range []struct {
		k    string
		ts   int
		want bool
	}{{"a", 8, true}, {"a", 9, false}, {"b", 4, true}, {"b", 5, false}, {"x", 4, true}, {"zz", 0, false}, {"a", -1, true}} {
		if Wrote(s, []byte(x.k), x.ts) != x.want {
			t.Error(x)
		}
	}
	for _, x := range []struct {
		r    api.Range
		ts   int
		want string
	}{{api.Range{Open: true}, 0, "a b c x"}, {api.Range{Open: true}, 5, "a c"}, {api.Range{Open: true}, 9, ""}, {api.Range{Lo: []byte("b"), Hi: []byte("x")}, 4, "b c"}, {api.Range{}, 0, ""}} {
		if got := string(bytes.Join(Changed(s, x.r, x.ts), []byte(" "))); got != x.want {
			t.Error(x, got)
		}
	}
	s.Ts = 8
	if Wrote(s, []byte("a"), 1) || Changed(s, api.Range{Open: true}, 1) != nil {
		t.Error("not sane")
	}
}

func TestWhatIsInstalledIsSeenFromItsTimeOn(t *testing.T) {
	s := Store{}
	for ts := 1; ts < 12; ts++ {
		k := string(rune('a' + ts%3))
		before := tell(Scan(s, api.Range{Open: true}, ts-1, 99))
		v := strconv.Itoa(ts)
		s = must(t, s, ts, put(k, v))
		if got, ok := Get(s, []byte(k), ts); !ok || string(got) != v {
			t.Error("not seen", ts)
		}
		if tell(Scan(s, api.Range{Open: true}, ts-1, 99)) != before {
			t.Error("seen ahead", ts)
		}
	}
}
