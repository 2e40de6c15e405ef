package serial

import (
	"slices"
	"strconv"
	"strings"
	"testing"

	"godwit/api"
	"godwit/client"
	"godwit/keys"
	"godwit/prog"
	"godwit/retry"
	"godwit/store"
	"godwit/world"
)

// tx is a transaction that has read and written some keys.
func tx(token, snap, ts int, read, wrote string) Tx {
	x := Tx{Token: token, Snap: snap, Ts: ts}
	for _, k := range strings.Fields(read) {
		x.Reads = append(x.Reads, keys.One([]byte(k)))
	}
	for _, k := range strings.Fields(wrote) {
		x.Writes = append(x.Writes, api.Write{Key: []byte(k), Val: []byte{1}})
	}
	return x
}

// counter adds one to a key.
func counter(k string) prog.Prog {
	return prog.Prog{Ops: []prog.Op{{What: prog.Get, A: 0, B: 1, Key: []byte(k)}, {What: prog.Add, A: 0, B: 2, N: 1}, {What: prog.Put, B: 0, Key: []byte(k)}}}
}

// copier puts what one key has to another one, and one more.
func copier(from, to string) prog.Prog {
	p := counter(from)
	p.Ops[2].Key = []byte(to)
	return p
}

func TestSane(t *testing.T) {
	var many []Tx
	for i := range 65 {
		many = append(many, tx(i, i, i+1, "", ""))
	}
	for k, l := range [][]Tx{nil, many[:64], {tx(1, 0, 1, "a", "a b")}, {tx(-5, 0, 1<<62, "", "")}, {{Snap: 0, Ts: 1, Reads: []api.Range{{}}}}, {{Ts: 1, Writes: []api.Write{{Key: []byte("a"), Del: true}, {Key: []byte("b"), Val: make([]byte, 32)}}}}} {
		if !Sane(l) {
			t.Error("may be", k)
		}
	}
	write := func(w api.Write) []Tx { return []Tx{{Ts: 1, Writes: []api.Write{w}}} }
	for k, l := range [][]Tx{
		many, {tx(1, 0, 1, "", ""), tx(1, 1, 2, "", "")}, {tx(1, 0, 1, "", ""), tx(2, 0, 1, "", "")}, {tx(1, 1, 1, "", "")}, {tx(1, -1, 1, "", "")}, {tx(1, 5, 3, "", "")}, {tx(1, 0, 1, "", "b a")}, {tx(1, 0, 1, "", "a a")},
		write(api.Write{}), write(api.Write{Key: make([]byte, 17)}), write(api.Write{Key: []byte("a"), Val: make([]byte, 33)}), write(api.Write{Key: []byte("a"), Val: []byte{1}, Del: true}),
		{{Ts: 1, Reads: []api.Range{{Lo: make([]byte, 18), Open: true}}}}, {{Ts: 1, Reads: []api.Range{{Hi: []byte("a"), Open: true}}}},
	} {
		if Sane(l) {
			t.Error("may not be", k)
		}
		if o, ok := Order(l); ok || o != nil {
			t.Error("order", k, o)
		}
		var items []Item
		for _, x := range l {
			items = append(items, Item{Tx: x})
		}
		if kv, ok := Replay(items); ok || kv != nil {
			t.Error("replay", k)
		}
	}
}

func TestAhead(t *testing.T) {
	for k, x := range []struct {
		a, b        Tx
		there, back bool
	}{
		{tx(1, 0, 1, "", "a"), tx(2, 0, 2, "", "a"), true, false},
		{tx(1, 0, 1, "", "a"), tx(2, 0, 2, "", "b"), false, false},
		{tx(1, 0, 1, "x", "a"), tx(2, 0, 2, "y", "b"), false, false},
		{tx(1, 0, 1, "x", "a"), tx(2, 5, 9, "y", "b"), false, false},
		{tx(1, 0, 2, "", "a"), tx(2, 0, 2, "", "a"), false, false},
		{tx(1, 0, 1, "", "a"), tx(2, 1, 2, "a", ""), true, false},
		{tx(1, 0, 1, "", "a"), tx(2, 0, 2, "a", ""), false, true},
		{tx(1, 0, 2, "", "a"), tx(2, 1, 3, "a", ""), false, true},
		{tx(1, 0, 1, "b", "a"), tx(2, 0, 2, "a", "b"), true, true},
		{tx(1, 0, 1, "a", ""), tx(2, 0, 2, "a", ""), false, false},
		{tx(1, 0, 1, "b", "a"), tx(1, 0, 2, "a", "b"), false, false},
		{tx(1, 0, 1, "", "a b c"), tx(2, 5, 9, "c", "x"), true, false},
	} {
		if there, back := Ahead(x.a, x.b), Ahead(x.b, x.a); there != x.there || back != x.back {
			t.Error(k, there, back)
		}
	}
}

func TestOrder(t *testing.T) {
	for k, x := range []struct {
		l    []Tx
		want []int
		ok   bool
	}{
		{nil, nil, true},
		{[]Tx{tx(1, 0, 3, "", "a"), tx(2, 0, 1, "", "a"), tx(3, 0, 2, "", "b")}, []int{1, 0, 2}, true},
		{[]Tx{tx(1, 0, 3, "", "z"), tx(2, 0, 1, "", "a"), tx(3, 0, 2, "", "b")}, []int{0, 1, 2}, true},
		{[]Tx{tx(1, 0, 1, "", "a"), tx(2, 0, 2, "a", "")}, []int{1, 0}, true}, // it has read what was there ahead
		{[]Tx{tx(1, 0, 1, "b", "a"), tx(2, 0, 2, "a", "b")}, nil, false},
		{[]Tx{tx(1, 0, 1, "b", "a"), tx(2, 0, 2, "a", "b"), tx(3, 0, 3, "", "q")}, []int{2}, false},
		{[]Tx{tx(1, 0, 4, "a", "b"), tx(2, 0, 5, "b", "c"), tx(3, 0, 6, "c", "a")}, nil, false},
	} {
		if got, ok := Order(x.l); !slices.Equal(got, x.want) || ok != x.ok {
			t.Error(k, got, ok)
		}
	}
}

// tell is keys and their numbers as a text.
func tell(l []api.KV) string {
	out := ""
	for _, x := range l {
		out += string(x.Key) + "=" + strconv.Itoa(prog.Num(x.Val)) + " "
	}
	return out
}

func TestReplay(t *testing.T) {
	one := Item{tx(1, 0, 1, "a", "a"), counter("a"), [8]int{1}}
	two := Item{tx(2, 1, 2, "a", "b"), copier("a", "b"), [8]int{2, 1}}
	for k, x := range []struct {
		l    []Item
		want string
		ok   bool
	}{
		{nil, "", true}, {[]Item{one}, "a=1 ", true}, {[]Item{one, two}, "a=1 b=2 ", true}, {[]Item{two, one}, "a=1 b=2 ", true}, {[]Item{two}, "b=1 ", false},
		{[]Item{{one.Tx, one.Prog, [8]int{1, 1}}, two}, "a=1 b=2 ", false},
		{[]Item{{tx(1, 0, 1, "a", "b"), copier("a", "b"), [8]int{1}}, {tx(2, 0, 2, "b", "a"), copier("b", "a"), [8]int{1}}}, "", false},
	} {
		if got, ok := Replay(x.l); tell(got) != x.want || ok != x.ok {
			t.Error(k, tell(got), ok)
		}
	}
}

// played is a world in which tasks were done without trouble.
func played(t *testing.T, clients int, progs []prog.Prog) world.World {
	t.Helper()
	w, e := world.New(world.Setup{Clients: clients, Idle: 1000, Cfg: client.Config{Plan: retry.Plan{Wait: 4, Most: 16, Tries: 5}, Attempts: 60, Budget: 100}})
	if e != api.OK {
		t.Fatal(e)
	}
	for i, p := range progs {
		w = world.Step(w, world.Act{What: 0, A: i % clients, Task: client.Task{Token: i, Prog: p}})
	}
	return rested(t, w)
}

// rested is a world behind as many rounds as it takes.
func rested(t *testing.T, w world.World) world.World {
	t.Helper()
	for range 3000 {
		for i := range w.Clients {
			w = world.Step(w, world.Act{What: 1, A: i})
		}
		for len(w.Net.Packets) > 0 {
			w = world.Step(w, world.Act{What: 2})
		}
		w = world.Step(w, world.Act{What: 7, A: 1})
		if world.Quiet(w) {
			return w
		}
	}
	t.Fatal("not quiet")
	return w
}

func TestOfAndHolds(t *testing.T) {
	progs := []prog.Prog{counter("a"), counter("a"), copier("a", "b")}
	w := played(t, 2, progs)
	l, ok := Of(w, progs)
	if !ok || len(l) != 3 || !Holds(w, progs) {
		t.Fatal(l, ok)
	}
	for i, x := range l {
		f := w.Facts[i]
		if x.Tx.Token != f.Token || x.Tx.Snap != f.Snap || x.Tx.Ts != f.Ts || len(x.Tx.Reads) != 1 || len(x.Tx.Writes) != 1 || len(x.Prog.Ops) != 3 || string(x.Prog.Ops[2].Key) != string(x.Tx.Writes[0].Key) || x.Regs[0] != prog.Num(x.Tx.Writes[0].Val) {
			t.Error(i, x)
		}
	}
	if _, ok := Of(w, progs[:2]); ok || Holds(w, progs[:2]) {
		t.Error("no such program")
	}
	change := func(f func(w *world.World)) world.World {
		v := w
		v.Facts = slices.Clone(w.Facts)
		v.Clients = slices.Clone(w.Clients)
		for i := range v.Clients {
			v.Clients[i].Tried = slices.Clone(w.Clients[i].Tried)
		}
		f(&v)
		return v
	}
	for k, v := range []world.World{
		change(func(w *world.World) { w.Facts[0].Attempt = 77 }), change(func(w *world.World) { w.Facts[0].Token = -1 }), change(func(w *world.World) { w.Clients[0].Tried, w.Clients[1].Tried = nil, nil }),
	} {
		if l, ok := Of(v, progs); ok || l != nil || Holds(v, progs) {
			t.Error("of", k)
		}
	}
	for k, v := range []world.World{
		change(func(w *world.World) { w.Facts = w.Facts[1:] }), change(func(w *world.World) { w.Clients[0].Tried[0].Regs[5]++ }), change(func(w *world.World) { w.Srv.Eng.Store = store.Store{} }), change(func(w *world.World) { w.Facts = append(w.Facts, w.Facts[0]) }),
	} {
		if Holds(v, progs) {
			t.Error("holds", k)
		}
	}
	if !Holds(world.World{}, nil) {
		t.Error("of nothing it holds")
	}
	for _, token := range []int{-1, 0} { // tried, but there is no such program
		bare := world.World{Facts: []world.Fact{{Token: token, Ts: 1}}, Clients: []client.Client{{Tried: []client.Tried{{Token: token}}}}}
		if l, ok := Of(bare, nil); ok || l != nil || Holds(bare, nil) {
			t.Error("no program", token)
		}
	}
}

func TestHoldsOfWhatThereIsAtLast(t *testing.T) {
	progs := []prog.Prog{counter("a"), copier("a", "b")}
	w := played(t, 1, progs)
	write := func(k, v string) api.Write { return api.Write{Key: []byte(k), Val: []byte(v)} }
	one, two := "\x01\x00\x00\x00", "\x02\x00\x00\x00"
	for k, x := range []struct {
		l    []api.Write
		want bool
	}{
		{[]api.Write{write("a", one), write("b", two)}, true}, {[]api.Write{write("a", one), write("b", one)}, false}, {[]api.Write{write("a", one), write("c", two)}, false}, {[]api.Write{write("a", one)}, false}, {[]api.Write{write("a", one), write("b", two), write("c", "")}, false}, {nil, false},
	} {
		w.Srv.Eng.Store, _ = store.Install(store.Store{}, 1, x.l)
		if Holds(w, progs) != x.want {
			t.Error(k)
		}
	}
}

func TestTheFirstThatTriedItSoIsTaken(t *testing.T) {
	w := world.World{
		Facts: []world.Fact{{Token: 0, Attempt: 2, Ts: 1}},
		Clients: []client.Client{
			{Tried: []client.Tried{{Token: 0, Attempt: 1, Regs: [8]int{1}}}},
			{Tried: []client.Tried{{Token: 1, Attempt: 2, Regs: [8]int{2}}, {Token: 0, Attempt: 2, Regs: [8]int{3}}, {Token: 0, Attempt: 2, Regs: [8]int{4}}}},
			{Tried: []client.Tried{{Token: 0, Attempt: 2, Regs: [8]int{5}}}},
		},
	}
	if l, ok := Of(w, []prog.Prog{{}}); !ok || l[0].Regs[0] != 3 {
		t.Error(l, ok)
	}
}

// dicer is a source of numbers that look like no pattern.
type dicer struct{ v uint32 }

func (d *dicer) dice(n int) int {
	d.v = d.v*1664525 + 1013904223
	return int(d.v>>16) % n
}

// someProg is a program of a few operations on few keys.
func (d *dicer) someProg() prog.Prog {
	p := prog.Prog{RO: d.dice(6) == 0}
	for range 1 + d.dice(6) {
		o := prog.Op{What: 1 + d.dice(8), A: d.dice(3), B: d.dice(3), N: d.dice(4)}
		if o.What == prog.Stop && d.dice(3) > 0 {
			o.What = prog.Get
		}
		if p.RO && (o.What == prog.Put || o.What == prog.Del) {
			o.What = prog.Get
		}
		k := []byte{byte('a' + d.dice(4))}
		switch o.What {
		case prog.Get, prog.Put, prog.Del:
			o.Key = k
		case prog.Scan:
			o.Rng = api.Range{Lo: k, Open: d.dice(2) == 0}
			if !o.Rng.Open {
				o.Rng.Hi = []byte{k[0] + 2}
			}
		}
		p.Ops = append(p.Ops, o)
	}
	return p
}

// someAct is one thing out of all that may be done to a world of so many clients.
func (d *dicer) someAct(clients int) world.Act {
	switch k := d.dice(60); {
	case k < 10:
		return world.Act{What: 1, A: d.dice(clients)}
	case k < 48:
		return world.Act{What: 2, A: d.dice(4)}
	case k < 50:
		return world.Act{What: 3, A: d.dice(4)}
	case k < 53:
		return world.Act{What: 4, A: d.dice(4)}
	case k < 54:
		return world.Act{What: 5, A: d.dice(3), B: d.dice(2000)}
	case k < 55:
		return world.Act{What: 6, A: d.dice(clients)}
	}
	return world.Act{What: 7, A: d.dice(4)}
}

func TestOfEveryWorldItHolds(t *testing.T) {
	facts, tries := 0, 0
	for seed := range uint32(60) {
		d := &dicer{seed*7919 + 3}
		clients := 2 + d.dice(3)
		w := played(t, clients, nil)
		var progs []prog.Prog
		ends := map[int]int{} // the Ts of what was reported, when the next task was handed in
		for range 12 {
			p := d.someProg()
			token := len(progs)
			progs = append(progs, p)
			for _, c := range w.Clients {
				for _, x := range c.Done {
					ends[token] = max(ends[token], x.Ts)
				}
			}
			w = world.Step(w, world.Act{What: 0, A: d.dice(clients), Task: client.Task{Token: token, Prog: p}})
			for range 25 {
				w = world.Step(w, d.someAct(clients))
			}
			if !Holds(w, progs) {
				t.Fatal("seed", seed, "after", token)
			}
		}
		w = rested(t, w)
		if !Holds(w, progs) {
			t.Fatal("seed", seed)
		}
		inRealTime(t, w, ends)
		onceAtMost(t, w)
		facts += len(w.Facts)
		for _, c := range w.Clients {
			tries += len(c.Tried)
		}
	}
	if facts < 300 || tries <= facts {
		t.Error(facts, tries)
	}
}

// inRealTime: what begins behind a report sees what that wrote.
func inRealTime(t *testing.T, w world.World, ends map[int]int) {
	t.Helper()
	for _, f := range w.Facts {
		if f.Snap < ends[f.Token] {
			t.Fatal("began behind a report, and does not see it", f, ends[f.Token])
		}
	}
}

// onceAtMost: what is reported Committed was done just once, what is reported Aborted or Exhausted was not, and nothing was twice.
func onceAtMost(t *testing.T, w world.World) {
	t.Helper()
	times := map[int]int{}
	for _, f := range w.Facts {
		times[f.Token]++
		if times[f.Token] > 1 {
			t.Fatal("twice", f)
		}
	}
	for _, c := range w.Clients {
		for _, x := range c.Done {
			if n := times[x.Token]; x.Code == client.Committed && n != 1 || x.Code == client.Aborted && n != 0 || x.Code == client.Exhausted && n != 0 || x.Code == client.Unknown && c.Phase != client.Dead {
				t.Fatal(x, n)
			}
		}
	}
}
