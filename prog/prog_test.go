package prog

import (
	"strconv"
	"testing"

	"godwit/api"
	"godwit/msg"
)

// of is a program of operations.
func of(l ...Op) Prog { return Prog{Ops: l} }

// kv is a key with a number's value.
func kv(k string, n int) api.KV { return api.KV{Key: []byte(k), Val: Val(n)} }

// open is the range from lo on.
func open(lo string) api.Range { return api.Range{Lo: []byte(lo), Open: true} }

// regs are registers.
func regs(l ...int) [8]int {
	var r [8]int
	copy(r[:], l)
	return r
}

// tell is keys and their numbers as a text.
func tell(l []api.KV) string {
	out := ""
	for _, x := range l {
		out += string(x.Key) + "=" + strconv.Itoa(Num(x.Val)) + " "
	}
	return out
}

// counter adds one to a key.
func counter(k string) Prog {
	return of(Op{What: Get, A: 0, B: 1, Key: []byte(k)}, Op{What: Add, A: 0, B: 2, N: 1}, Op{What: Put, B: 0, Key: []byte(k)})
}

func TestSane(t *testing.T) {
	k := []byte("k")
	long := make([]byte, 17)
	var many []Op
	for range 25 {
		many = append(many, Op{What: Stop})
	}
	for i, p := range []Prog{
		{}, {RO: true}, counter("a"), of(many[:24]...), of(Op{What: Set, A: 7, B: 7, N: 1<<32 - 1}), of(Op{What: Get, N: 5, Key: long[:16]}), of(Op{What: Skip, N: 24}), of(Op{What: Scan, Rng: api.Range{Lo: long[:16], Hi: []byte("z")}}),
		of(Op{What: Scan, Rng: open("")}), {RO: true, Ops: []Op{{What: Get, Key: k}, {What: Scan, Rng: open("a")}, {What: Set}, {What: Add}, {What: Skip}, {What: Stop}}},
	} {
		if !Sane(p) {
			t.Error("may be", i)
		}
	}
	for i, p := range []Prog{
		of(many...), of(Op{}), of(Op{What: 9}), of(Op{What: -1}), of(Op{What: -1 << 63}), of(Op{What: Set, A: -1}), of(Op{What: Set, A: 8}), of(Op{What: Set, B: -1}), of(Op{What: Set, B: 8}), of(Op{What: Set, N: -1}), of(Op{What: Set, N: 1 << 32}),
		of(Op{What: Get}), of(Op{What: Get, Key: long}), of(Op{What: Put}), of(Op{What: Del}), of(Op{What: Scan, Key: k, Rng: open("")}), of(Op{What: Set, Key: k}), of(Op{What: Stop, Key: k}), of(Op{What: Get, Key: k, Rng: open("")}), of(Op{What: Add, Rng: api.Range{Lo: k}}), of(Op{What: Skip, Rng: api.Range{Hi: k}}),
		of(Op{What: Scan}), of(Op{What: Scan, Rng: api.Range{Lo: k, Hi: k}}), of(Op{What: Scan, Rng: api.Range{Hi: k, Open: true}}), of(Op{What: Scan, Rng: api.Range{Lo: long, Open: true}}), of(Op{What: Scan, Rng: api.Range{Lo: k, Hi: append([]byte("z"), long[1:]...)}}), of(Op{What: Scan, Rng: api.Range{Hi: []byte{0}}}),
		of(Op{What: Skip, N: 25}), {RO: true, Ops: []Op{{What: Put, Key: k}}}, {RO: true, Ops: []Op{{What: Stop}, {What: Del, Key: k}}}, of(Op{What: Stop}, Op{}),
	} {
		if Sane(p) {
			t.Error("may not be", i)
		}
		if q, s, ok := Next(p, State{PC: 1}); ok || s != (State{PC: 1}) || !msg.SameReq(q, msg.Req{}) {
			t.Error("next", i)
		}
		if s, e := Take(p, State{}, msg.Reply{}); e != api.ErrArg || s != (State{}) {
			t.Error("take", i, e)
		}
		if l, s := Run(p, []api.KV{kv("a", 1)}); tell(l) != "a=1 " || s != (State{}) {
			t.Error("run", i)
		}
	}
}

func TestValAndNum(t *testing.T) {
	for n, want := range map[int]string{0: "\x00\x00\x00\x00", 0x01020304: "\x04\x03\x02\x01", 1<<32 - 1: "\xff\xff\xff\xff", 1<<32 + 5: "\x05\x00\x00\x00", -1: "\xff\xff\xff\xff"} {
		if got := string(Val(n)); got != want {
			t.Errorf("%d %q", n, got)
		}
	}
	for b, want := range map[string]int{"": 0, "\x05": 5, "\x00\x01": 256, "\x01\x00\x00": 1, "\xff\xff\xff\xff": 1<<32 - 1, "\x01\x00\x00\x00\x07": 1} {
		if got := Num([]byte(b)); got != want {
			t.Errorf("%q %d", b, got)
		}
	}
}

func TestNextDoesWhatIsNotAsked(t *testing.T) {
	k := []byte("k")
	get := Op{What: Get, Key: k}
	for i, x := range []struct {
		p    Prog
		s    State
		want State
		ok   bool
	}{
		{of(), State{}, State{}, false}, {of(), State{PC: 9}, State{}, false}, {of(get), State{PC: -1}, State{PC: -1}, false}, {of(get), State{}, State{}, true}, {of(get), State{PC: 1}, State{PC: 1}, false}, {of(get), State{PC: 77}, State{PC: 1}, false}, {of(get), State{Stopped: true}, State{Stopped: true}, false},
		{of(Op{What: Set, A: 2, N: 5}, get), State{}, State{PC: 1, Regs: regs(0, 0, 5)}, true},
		{of(Op{What: Add, A: 0, B: 1, N: 5}), State{Regs: regs(1, 10)}, State{PC: 1, Regs: regs(16, 10)}, false},
		{of(Op{What: Add, A: 0, B: 0, N: 5}), State{Regs: regs(1<<31, 10)}, State{PC: 1, Regs: regs(5, 10)}, false},
		{of(Op{What: Add, A: 0, B: 1, N: 1<<32 - 1}), State{Regs: regs(-1, 1<<40)}, State{PC: 1, Regs: regs(1<<32-2, 1<<40)}, false},
		{of(Op{What: Skip, A: 3, N: 1}, get, Op{What: Del, Key: k}), State{}, State{PC: 2}, true}, {of(Op{What: Skip, A: 0, N: 1}, get), State{Regs: regs(7)}, State{PC: 1, Regs: regs(7)}, true}, {of(Op{What: Skip, N: 0}, get), State{}, State{PC: 1}, true}, {of(Op{What: Skip, N: 24}, get), State{}, State{PC: 2}, false},
		{of(Op{What: Skip, N: 1}, get, get), State{Regs: regs(1 << 32)}, State{PC: 1, Regs: regs(1 << 32)}, true},
		{of(Op{What: Stop}, get), State{}, State{PC: 1, Stopped: true}, false},
	} {
		if _, s, ok := Next(x.p, x.s); s != x.want || ok != x.ok {
			t.Error(i, s, ok)
		}
	}
}

func TestNextAsks(t *testing.T) {
	k := []byte("k")
	for i, x := range []struct {
		o    Op
		want msg.Req
	}{
		{Op{What: Get, Key: k}, msg.Req{Kind: msg.Get, Key: k}}, {Op{What: Put, B: 3, Key: k}, msg.Req{Kind: msg.Put, Key: k, Val: []byte{4, 1, 0, 0}}}, {Op{What: Del, Key: k}, msg.Req{Kind: msg.Del, Key: k}}, {Op{What: Scan, Rng: open("a")}, msg.Req{Kind: msg.Scan, Rng: open("a")}},
	} {
		s := State{PC: 1, Regs: regs(0, 0, 0, 260)}
		if q, at, ok := Next(of(Op{What: Stop}, x.o), s); !ok || at != s || !msg.SameReq(q, x.want) || !msg.SaneReq(q) {
			t.Error(i, q, at, ok)
		}
	}
}

func TestTake(t *testing.T) {
	k := []byte("k")
	p := of(Op{What: Get, A: 1, B: 2, Key: k}, Op{What: Put, A: 1, Key: k}, Op{What: Del, Key: k}, Op{What: Scan, A: 3, B: 4, Rng: open("")}, Op{What: Set}, Op{What: Get, A: 5, B: 5, Key: k}, Op{What: Scan, A: 5, B: 5, Rng: open("")})
	found := msg.Reply{Found: true, Val: []byte{7, 1}}
	list := msg.Reply{List: []api.KV{kv("a", 1<<32-1), kv("b", 3), {Key: k}}}
	was := regs(9, 9, 9, 9, 9, 9)
	for i, x := range []struct {
		pc   int
		r    msg.Reply
		want [8]int
	}{
		{0, found, regs(9, 263, 1, 9, 9, 9)}, {0, msg.Reply{}, regs(9, 0, 0, 9, 9, 9)}, {0, msg.Reply{Val: []byte{1}}, regs(9, 0, 0, 9, 9, 9)}, {1, found, was}, {2, msg.Reply{}, was}, {3, list, regs(9, 9, 9, 3, 2, 9)}, {3, msg.Reply{}, regs(9, 9, 9, 0, 0, 9)},
		{5, found, regs(9, 9, 9, 9, 9, 263)}, {6, list, regs(9, 9, 9, 9, 9, 3)},
	} {
		if s, e := Take(p, State{PC: x.pc, Regs: was}, x.r); e != api.OK || s != (State{PC: x.pc + 1, Regs: x.want}) {
			t.Error(i, s, e)
		}
	}
	for i, s := range []State{{PC: -1}, {PC: 4}, {PC: 7}, {PC: 1 << 62}, {Stopped: true}} {
		if got, e := Take(p, s, found); e != api.ErrState || got != (State{}) {
			t.Error(i, got, e)
		}
	}
}

func TestRun(t *testing.T) {
	base := []api.KV{kv("a", 5), kv("b", 6)}
	k := []byte("c")
	for i, x := range []struct {
		p    Prog
		base []api.KV
		want string
		s    State
	}{
		{of(), base, "a=5 b=6 ", State{}}, {of(), nil, "", State{}},
		{counter("a"), base, "a=6 b=6 ", State{PC: 3, Regs: regs(6, 1)}}, {counter("a"), nil, "a=1 ", State{PC: 3, Regs: regs(1)}},
		{of(Op{What: Del, Key: []byte("a")}, Op{What: Get, A: 0, B: 1, Key: []byte("a")}, Op{What: Scan, A: 2, B: 3, Rng: open("")}), base, "b=6 ", State{PC: 3, Regs: regs(0, 0, 1, 6)}},
		{of(Op{What: Put, B: 5, Key: k}, Op{What: Stop}, Op{What: Put, Key: []byte("d")}), base, "a=5 b=6 c=0 ", State{PC: 2, Stopped: true}},
		{counter("a"), []api.KV{kv("b", 1), kv("a", 1)}, "b=1 a=1 ", State{}}, {counter("a"), []api.KV{kv("a", 1), kv("a", 1)}, "a=1 a=1 ", State{}},
	} {
		if l, s := Run(x.p, x.base); tell(l) != x.want || s != x.s {
			t.Error(i, tell(l), s)
		}
	}
}

func TestRunScansTheFirstEight(t *testing.T) {
	var base []api.KV
	for i := range 12 {
		base = append(base, kv("k"+string(rune('a'+i)), 1<<i))
	}
	if l, s := Run(of(Op{What: Scan, A: 0, B: 1, Rng: open("kc")}), base); s.Regs != regs(8, 1020) || len(l) != 12 {
		t.Error(s)
	}
	if _, s := Run(of(Op{What: Scan, A: 0, B: 1, Rng: api.Range{Hi: []byte("kc")}}), base); s.Regs != regs(2, 3) {
		t.Error(s)
	}
}

func TestAPutThatIsRefusedEndsIt(t *testing.T) {
	var l []Op
	for i := range 18 {
		l = append(l, Op{What: Put, Key: []byte(strconv.Itoa(100 + i))})
	}
	if got, s := Run(of(l...), nil); len(got) != 16 || s != (State{PC: 16}) {
		t.Error(len(got), s)
	}
}

func TestAskedOfWhatThereIsItEndsAsRunDoes(t *testing.T) {
	v := uint32(6)
	dice := func(n int) int {
		v = v*1664525 + 1013904223
		return int(v>>16) % n
	}
	for range 3000 {
		var p Prog
		for range dice(20) {
			o := Op{What: 1 + dice(7), A: dice(4), B: dice(4), N: dice(4)}
			if dice(30) == 0 {
				o.What = Stop
			}
			switch o.What {
			case Get, Put, Del:
				o.Key = []byte{byte('a' + dice(4))}
			case Scan:
				o.Rng = open(string(rune('a' + dice(4))))
			}
			p.Ops = append(p.Ops, o)
		}
		there := map[string][]byte{"b": Val(2), "c": Val(3)}
		want, end := Run(p, []api.KV{kv("b", 2), kv("c", 3)})
		s, asked := State{}, 0
		for {
			q, at, ok := Next(p, s)
			s = at
			if !ok {
				break
			}
			asked++
			r := msg.Reply{}
			switch q.Kind {
			case msg.Get:
				r.Val, r.Found = there[string(q.Key)]
			case msg.Put:
				there[string(q.Key)] = q.Val
			case msg.Del:
				delete(there, string(q.Key))
			case msg.Scan:
				for c := q.Rng.Lo[0]; c <= 'd'; c++ {
					if b, ok := there[string(rune(c))]; ok {
						r.List = append(r.List, api.KV{Key: []byte{c}, Val: b})
					}
				}
			}
			var e api.Errno
			if s, e = Take(p, s, r); e != api.OK {
				t.Fatal(e)
			}
		}
		if s != end || asked > len(p.Ops) || len(want) != len(there) {
			t.Fatal(s, end, asked, p)
		}
		for _, x := range want {
			if string(there[string(x.Key)]) != string(x.Val) {
				t.Fatal(tell(want))
			}
		}
	}
}
