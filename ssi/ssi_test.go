package ssi

import (
	"slices"
	"strconv"
	"strings"
	"testing"

	"godwit/api"
	"godwit/keys"
	"godwit/reads"
)

// texts are keys.
func texts(s string) [][]byte {
	var l [][]byte
	for _, k := range strings.Fields(s) {
		l = append(l, []byte(k))
	}
	return l
}

// tell is a Cert as a text.
func tell(c Cert) string {
	out := ""
	for _, x := range c.Txs {
		out += strconv.Itoa(x.ID) + ":" + strconv.Itoa(x.Begin) + "-" + strconv.Itoa(x.End)
		for _, f := range []struct {
			on   bool
			text string
		}{{x.State == Done, "d"}, {x.In, "i"}, {x.Out, "o"}, {x.RO, "r"}} {
			if f.on {
				out += f.text
			}
		}
		for _, k := range x.Keys {
			out += "," + string(k)
		}
		out += " "
	}
	for _, r := range c.Reads.L {
		out += "[" + strconv.Itoa(r.Tx) + string(r.Rng.Lo) + "]"
	}
	return out
}

// step is one call, told by a word, and what it is to answer.
type step struct {
	what string
	id   int
	at   int
	keys string
	e    api.Errno
}

// run does steps, and fails the test where one answers another error.
func run(t *testing.T, l []step) Cert {
	t.Helper()
	c := Cert{}
	for i, s := range l {
		var next Cert
		var e api.Errno
		switch s.what {
		case "begin", "ro":
			next, e = Begin(c, s.id, s.at, s.what == "ro")
		case "read":
			next, e = Read(c, s.id, keys.One([]byte(s.keys)))
		case "commit":
			next, e = Commit(c, s.id, s.at, texts(s.keys))
		case "abort":
			next = Abort(c, s.id)
		case "clean":
			next = Clean(c)
		}
		if e != s.e {
			t.Fatal(i, s, e)
		}
		if e == api.OK {
			c = next
		} else if tell(next) != "" {
			t.Fatal(i, "with an error something is told")
		}
		if !Sane(c) {
			t.Fatal(i, "not sane", tell(c))
		}
	}
	return c
}

func TestStates(t *testing.T) {
	if Active != 1 || Done != 2 {
		t.Error(Active, Done)
	}
}

func TestSane(t *testing.T) {
	a := Tx{ID: 1, State: Active}
	d := Tx{ID: 2, Begin: 3, End: 5, State: Done, Keys: texts("a b")}
	change := func(x Tx, f func(x *Tx)) Cert {
		f(&x)
		return Cert{Txs: []Tx{x}}
	}
	many := Cert{}
	for i := range 65 {
		many.Txs = append(many.Txs, Tx{ID: i, State: Active})
	}
	read := reads.Table{L: []reads.Read{{Tx: 2, Rng: api.Range{Open: true}}}}
	for k, x := range []struct {
		c  Cert
		ok bool
	}{
		{Cert{}, true}, {Cert{Txs: []Tx{a, d}, Reads: read}, true}, {Cert{Txs: []Tx{a}, Reads: read}, false},
		{Cert{Txs: []Tx{d}, Reads: reads.Table{L: []reads.Read{{Tx: 2}}}}, false},
		{Cert{Txs: many.Txs[:64]}, true}, {many, false}, {Cert{Txs: []Tx{a, a}}, false},
		{change(a, func(x *Tx) { x.ID = -1 }), false}, {change(a, func(x *Tx) { x.Begin = -1 }), false}, {change(a, func(x *Tx) { x.Begin = api.MaxTs + 1 }), false}, {change(a, func(x *Tx) { x.Begin = api.MaxTs }), true},
		{change(a, func(x *Tx) { x.State = 0 }), false}, {change(a, func(x *Tx) { x.State = 3 }), false}, {change(a, func(x *Tx) { x.End = 1 }), false}, {change(a, func(x *Tx) { x.Keys = texts("a") }), false}, {change(a, func(x *Tx) { x.In, x.Out, x.RO = true, true, true }), true},
		{change(d, func(x *Tx) { x.End = 3 }), false}, {change(d, func(x *Tx) { x.End = api.MaxTs + 1 }), false}, {change(d, func(x *Tx) { x.End = api.MaxTs }), true}, {change(d, func(x *Tx) { x.Keys = texts("b a") }), false}, {change(d, func(x *Tx) { x.Keys = [][]byte{{}} }), false}, {change(d, func(x *Tx) { x.RO = true }), false}, {change(d, func(x *Tx) { x.RO, x.Keys = true, nil }), true},
		{Cert{Txs: []Tx{d, {ID: 3, End: 5, State: Done}}}, false}, {Cert{Txs: []Tx{{ID: 3, End: 5, State: Done}, d}}, false}, {Cert{Txs: []Tx{{ID: 3, End: 5, State: Done, Keys: texts("z")}, {ID: 4, End: 5, State: Done}}}, false}, {Cert{Txs: []Tx{{ID: 4, End: 5, State: Done}, {ID: 3, End: 5, State: Done, Keys: texts("z")}}}, false}, {change(d, func(x *Tx) { x.RO, x.Keys = true, texts("z") }), false}, {Cert{Txs: []Tx{d, {ID: 3, End: 5, State: Done, Keys: texts("z")}}}, false}, {Cert{Txs: []Tx{d, {ID: 3, End: 6, State: Done, Keys: texts("z")}}}, true}, {Cert{Txs: []Tx{{ID: 2, End: 5, State: Done}, {ID: 3, End: 5, State: Done}}}, true},
	} {
		if Sane(x.c) != x.ok {
			t.Error(k, tell(x.c))
		}
	}
}

func TestBegin(t *testing.T) {
	bad := Cert{Txs: []Tx{{ID: -1}}}
	full := Cert{}
	for i := range 64 {
		full.Txs = append(full.Txs, Tx{ID: i, State: Active})
	}
	for k, x := range []struct {
		c        Cert
		id, snap int
		e        api.Errno
	}{{bad, 1, 1, api.ErrArg}, {full, -1, 1, api.ErrArg}, {full, 1, -1, api.ErrArg}, {full, 1, api.MaxTs + 1, api.ErrArg}, {full, 1, 1, api.ErrState}, {full, 64, 1, api.ErrBusy}} {
		if c, e := Begin(x.c, x.id, x.snap, false); e != x.e || tell(c) != "" {
			t.Error(k, e)
		}
	}
	c := run(t, []step{{"begin", 9, 3, "", 0}, {"ro", 2, 4, "", 0}, {"begin", 9, 5, "", api.ErrState}})
	if tell(c) != "9:3-0 2:4-0r " {
		t.Error(tell(c))
	}
}

func TestReadPassesThoseByThatAreDone(t *testing.T) {
	c := run(t, []step{
		{"begin", 0, 0, "", 0}, {"commit", 0, 1, "a", 0},
		{"begin", 1, 1, "", 0}, {"begin", 2, 1, "", 0}, {"begin", 3, 1, "", 0},
		{"commit", 2, 2, "a b", 0}, {"commit", 3, 3, "c", 0},
		{"read", 1, 0, "b", 0}, {"read", 1, 0, "x", 0},
		{"read", 9, 0, "b", api.ErrState}, {"read", 2, 0, "b", api.ErrState},
	})
	if tell(c) != "0:0-1d,a 1:1-0o 2:1-2di,a,b 3:1-3d,c [1b][1x]" {
		t.Error(tell(c))
	}
	// Of 0, whose End is at the Begin, nothing is passed by.
	if c, e := Read(c, 1, keys.One([]byte("a"))); e != api.OK || c.Txs[0].In {
		t.Error(tell(c), e)
	}
}

func TestReadRefuses(t *testing.T) {
	// 2 has passed 1 by, and is Done; who reads what 2 wrote would make it a pivot.
	c := run(t, []step{
		{"begin", 1, 1, "", 0}, {"begin", 2, 1, "", 0}, {"begin", 3, 1, "", 0},
		{"read", 2, 0, "a", 0}, {"commit", 2, 2, "b", 0}, {"commit", 1, 3, "a", 0},
		{"read", 3, 0, "b", api.ErrAborted},
	})
	if tell(c) != "1:1-3di,a 2:1-2do,b 3:1-0 [2a]" {
		t.Error(tell(c))
	}
	if _, e := Read(c, 3, api.Range{}); e != api.ErrArg {
		t.Error(e)
	}
	if _, e := Read(Cert{Txs: []Tx{{}}}, 3, keys.One([]byte("b"))); e != api.ErrArg {
		t.Error(e)
	}
	for i := range 127 {
		var e api.Errno
		if c, e = Read(c, 3, keys.One([]byte("z"+strconv.Itoa(i)))); e != api.OK {
			t.Fatal(e)
		}
	}
	if _, e := Read(c, 3, keys.One([]byte("b"))); e != api.ErrBusy {
		t.Error(e)
	}
}

func TestCommitArguments(t *testing.T) {
	c := run(t, []step{{"begin", 1, 5, "", 0}, {"ro", 2, 0, "", 0}, {"begin", 3, 0, "", 0}, {"commit", 3, 7, "z", 0}})
	for k, x := range []struct {
		id, ts int
		l      [][]byte
		e      api.Errno
	}{
		{9, 8, nil, api.ErrState}, {3, 8, nil, api.ErrState}, {1, 5, nil, api.ErrArg}, {1, 7, nil, api.ErrArg}, {1, api.MaxTs + 1, nil, api.ErrArg}, {1, -1, nil, api.ErrArg},
		{1, 8, texts("b a"), api.ErrArg}, {1, 8, texts("a a"), api.ErrArg}, {1, 8, [][]byte{{}}, api.ErrArg}, {1, 8, [][]byte{make([]byte, 17)}, api.ErrArg}, {2, 8, texts("a"), api.ErrArg}, {1, 7, texts("z"), api.ErrArg},
		{1, 8, texts("y z"), api.ErrConflict},
	} {
		if c, e := Commit(c, x.id, x.ts, x.l); e != x.e || tell(c) != "" {
			t.Error(k, e)
		}
	}
	for id := 1; id <= 2; id++ {
		if c, e := Commit(c, id, api.MaxTs, nil); e != api.OK || !Sane(c) {
			t.Error(id, e)
		}
	}
	if _, e := Commit(Cert{Txs: []Tx{{}}}, 1, 2, nil); e != api.ErrArg {
		t.Error(e)
	}
	alone := run(t, []step{{"begin", 1, 5, "", 0}})
	for ts, want := range map[int]api.Errno{4: api.ErrArg, 5: api.ErrArg, 6: 0} {
		if _, e := Commit(alone, 1, ts, texts("a")); e != want {
			t.Error(ts, e)
		}
	}
}

func TestConflictIsOfThoseBesideAlone(t *testing.T) {
	run(t, []step{
		{"begin", 1, 0, "", 0}, {"commit", 1, 1, "a", 0}, {"begin", 2, 1, "", 0}, {"begin", 3, 1, "", 0}, {"commit", 2, 2, "a", 0}, {"commit", 3, 3, "a", api.ErrConflict}, {"commit", 3, 3, "b", 0},
	})
}

func TestTwoReadEachOthersKey(t *testing.T) {
	c := run(t, []step{
		{"begin", 1, 0, "", 0}, {"begin", 2, 0, "", 0}, {"read", 1, 0, "a", 0}, {"read", 2, 0, "b", 0}, {"commit", 1, 1, "b", 0}, {"commit", 2, 2, "a", api.ErrAborted},
	})
	if tell(c) != "1:0-1di,b 2:0-0o [1a][2b]" {
		t.Error(tell(c))
	}
}

func TestCommitThatMakesAPivotOfOneThatIsDone(t *testing.T) {
	// 2 is Done, read a, and was passed by 3: who writes a would make it a pivot.
	run(t, []step{
		{"begin", 1, 0, "", 0}, {"begin", 2, 0, "", 0}, {"begin", 3, 0, "", 0}, {"read", 2, 0, "a", 0}, {"read", 3, 0, "b", 0}, {"commit", 2, 1, "b", 0},
		{"commit", 1, 2, "a", api.ErrAborted}, {"commit", 1, 2, "x", 0},
	})
}

func TestAPivotThatIsActiveRefusesNothing(t *testing.T) {
	c := run(t, []step{{"begin", 1, 0, "", 0}, {"begin", 2, 0, "", 0}, {"read", 1, 0, "a", 0}})
	c.Txs[0].In = true
	next, e := Commit(c, 2, 1, texts("a"))
	if e != api.OK || tell(next) != "1:0-0io 2:0-1di,a [1a]" {
		t.Error(tell(next), e)
	}
	if _, e := Commit(next, 1, 2, nil); e != api.ErrAborted {
		t.Error(e)
	}
}

func TestCommitOfAPivot(t *testing.T) {
	// 2 has passed 1 by, and 3, that is Active, has read what 2 writes.
	run(t, []step{
		{"begin", 1, 0, "", 0}, {"begin", 2, 0, "", 0}, {"begin", 3, 0, "", 0}, {"read", 2, 0, "a", 0}, {"read", 3, 0, "b", 0}, {"commit", 1, 1, "a", 0},
		{"commit", 2, 2, "b", api.ErrAborted}, {"commit", 2, 2, "c", 0},
	})
}

func TestReadersThatAreDoneAheadDoNotPassBy(t *testing.T) {
	c := run(t, []step{
		{"begin", 1, 0, "", 0}, {"read", 1, 0, "a", 0}, {"commit", 1, 1, "", 0}, {"begin", 2, 1, "", 0}, {"read", 2, 0, "a", 0}, {"commit", 2, 2, "a", 0},
	})
	if tell(c) != "1:0-1d 2:1-2d,a [1a][2a]" {
		t.Error(tell(c))
	}
}

func TestAbortKeepsInAndOutOfOthers(t *testing.T) {
	c := run(t, []step{
		{"begin", 1, 0, "", 0}, {"begin", 2, 0, "", 0}, {"read", 2, 0, "a", 0}, {"commit", 1, 1, "a", 0}, {"abort", 1, 0, "", 0}, {"abort", 9, 0, "", 0}, {"abort", 2, 0, "", 0},
	})
	if tell(c) != "1:0-1di,a " {
		t.Error(tell(c))
	}
}

func TestWhatGoesGoesByItsID(t *testing.T) {
	odd := Cert{Txs: []Tx{{ID: 1, State: Active}, {ID: 2, Begin: 1, End: 5, State: Done}, {ID: 1, End: 3, State: Done}, {ID: 2, Begin: 7, State: Active}}}
	if got := tell(Abort(odd, 1)); got != "2:1-5d 2:7-0 " {
		t.Error(got)
	}
	if got := tell(Abort(odd, 2)); got != tell(odd) {
		t.Error("the first one is Done", got)
	}
	odd.Txs[0].Begin = 4
	if got := tell(Clean(odd)); got != "2:1-5d 2:7-0 " {
		t.Error(got)
	}
	if x, ok := Find(odd, 2); !ok || x.End != 5 {
		t.Error(x, ok)
	}
}

func TestCleanAndOldest(t *testing.T) {
	c := run(t, []step{
		{"begin", 1, 0, "", 0}, {"begin", 2, 0, "", 0}, {"read", 1, 0, "x", 0}, {"commit", 1, 2, "a", 0}, {"read", 2, 0, "y", 0}, {"begin", 3, 2, "", 0}, {"commit", 2, 3, "b", 0},
	})
	if Oldest(c, 9) != 2 || Oldest(c, 1) != 1 || Oldest(Cert{}, -5) != -5 {
		t.Error("oldest", Oldest(c, 9))
	}
	if got := tell(Clean(c)); got != "2:0-3d,b 3:2-0 [2y]" {
		t.Error(got)
	}
	c, _ = Commit(c, 3, 4, nil)
	if got := tell(Clean(c)); got != "" || Oldest(c, 9) != 9 {
		t.Error(got)
	}
	if x, ok := Find(c, 8); ok || x.State != 0 {
		t.Error(x, ok)
	}
	if x, ok := Find(c, 2); !ok || x.End != 3 {
		t.Error(x, ok)
	}
}

// past is a transaction that was done, for the test to look back at.
type past struct {
	snap, ts    int
	read, wrote []int
}

// meets: have two lists a number in common?
func meets(a, b []int) bool {
	for _, x := range a {
		if slices.Contains(b, x) {
			return true
		}
	}
	return false
}

// ahead: must a come ahead of b, in any order that explains both?
func ahead(a, b past) bool {
	return meets(a.wrote, b.wrote) && a.ts < b.ts || meets(b.read, a.wrote) && a.ts <= b.snap || meets(a.read, b.wrote) && b.ts > a.snap
}

// ordered: is there an order?
func ordered(l []past) bool {
	l = slices.Clone(l)
	for len(l) > 0 {
		first := slices.IndexFunc(l, func(x past) bool {
			return !slices.ContainsFunc(l, func(y past) bool { return y.ts != x.ts && ahead(y, x) })
		})
		if first < 0 {
			return false
		}
		l = slices.Delete(l, first, first+1)
	}
	return true
}

func TestNoPivotIsEverDoneAndThereIsAnOrder(t *testing.T) {
	v := uint32(7)
	dice := func(n int) int {
		v = v*1664525 + 1013904223
		return int(v>>16) % n
	}
	done, refused := 0, 0
	for range 1500 {
		c, now, next := Cert{}, 0, 0
		open := map[int]past{}
		var all []past
		for range 40 {
			id := dice(next + 1)
			x, there := open[id]
			switch k := dice(4); {
			case k == 0 && len(open) < 5:
				c, _ = Begin(c, next, now, dice(4) == 0)
				open[next] = past{snap: now}
				next++
			case k == 1 && there:
				key := dice(4)
				after, e := Read(c, id, keys.One([]byte{byte('a' + key)}))
				if e != api.OK {
					c = Abort(c, id)
					delete(open, id)
					break
				}
				c = after
				x.read = append(slices.Clone(x.read), key)
				open[id] = x
			case k >= 2 && there && dice(2) == 0:
				var l [][]byte
				if tx, _ := Find(c, id); !tx.RO {
					x.wrote = []int{dice(4)}
					l = [][]byte{{byte('a' + x.wrote[0])}}
				}
				delete(open, id)
				after, e := Commit(c, id, now+1, l)
				if e != api.OK {
					c = Abort(c, id)
					refused++
					break
				}
				now++
				done++
				x.ts = now
				all = append(all, x)
				c = after
				if dice(2) == 0 {
					c = Clean(c)
				}
			}
			if !Sane(c) {
				t.Fatal(tell(c))
			}
			for _, x := range c.Txs {
				if x.State == Done && x.In && x.Out {
					t.Fatal("a pivot is Done", tell(c))
				}
			}
		}
		if !ordered(all) {
			t.Fatal("no order", all)
		}
	}
	if done < 1000 || refused < 100 {
		t.Error(done, refused)
	}
}
