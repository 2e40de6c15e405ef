package txn

import (
	"slices"
	"strconv"
	"testing"

	"godwit/api"
	"godwit/buffer"
	"godwit/keys"
	"godwit/reads"
	"godwit/ssi"
	"godwit/store"
	"godwit/tokens"
)

func put(k, v string) api.Write { return api.Write{Key: []byte(k), Val: []byte(v)} }
func del(k string) api.Write    { return api.Write{Key: []byte(k), Del: true} }

// tell is an engine as a text.
func tell(e Engine) string {
	out := "ts" + strconv.Itoa(e.Store.Ts) + " next" + strconv.Itoa(e.Next)
	for _, o := range e.Open {
		out += " open" + strconv.Itoa(o.ID) + "/" + strconv.Itoa(o.Token) + "/" + strconv.Itoa(o.Attempt) + "@" + strconv.Itoa(o.Snap)
		for _, w := range o.Buf.L {
			out += "," + string(w.Key) + "=" + string(w.Val)
		}
	}
	for _, x := range e.Cert.Txs {
		out += " tx" + strconv.Itoa(x.ID) + ":" + strconv.Itoa(x.State)
	}
	for _, r := range e.Cert.Reads.L {
		out += " [" + strconv.Itoa(r.Tx) + string(r.Rng.Lo) + "]"
	}
	for _, x := range e.Toks.L {
		out += " tok" + strconv.Itoa(x.Tok) + "/" + strconv.Itoa(x.Attempt) + ":" + strconv.Itoa(x.State) + "@" + strconv.Itoa(x.Ts)
	}
	for _, x := range store.Latest(e.Store) {
		out += " " + string(x.Key) + "=" + string(x.Val)
	}
	return out
}

// none is what Engine{} tells.
const none = "ts0 next0"

// machine does steps on an engine, and fails the test where one answers another error.
type machine struct {
	t *testing.T
	e Engine
}

func (m *machine) took(e Engine, got, want api.Errno) {
	m.t.Helper()
	if got != want {
		m.t.Fatal(got, tell(e))
	}
	if !Sane(e) {
		m.t.Fatal("not sane", tell(e))
	}
	m.e = e
}

func (m *machine) begin(token, attempt int, ro bool, want api.Errno) int {
	m.t.Helper()
	e, id, err := Begin(m.e, token, attempt, ro)
	m.took(e, err, want)
	if err != api.OK && id != 0 {
		m.t.Fatal("beside an error", id)
	}
	return id
}

func (m *machine) put(id int, w api.Write, want api.Errno) {
	m.t.Helper()
	e, err := Put(m.e, id, w)
	m.took(e, err, want)
}

func (m *machine) get(id int, k, want string, err api.Errno) {
	m.t.Helper()
	e, v, ok, got := Get(m.e, id, []byte(k))
	m.took(e, got, err)
	if ok != (want != "") || string(v) != want {
		m.t.Fatal(k, string(v), ok)
	}
}

func (m *machine) scan(id int, r api.Range, most int, want string, err api.Errno) {
	m.t.Helper()
	e, l, got := Scan(m.e, id, r, most)
	m.took(e, got, err)
	out := ""
	for _, x := range l {
		out += string(x.Key) + string(x.Val) + " "
	}
	if out != want {
		m.t.Fatal(out)
	}
}

func (m *machine) commit(id, ts int, want api.Errno) {
	m.t.Helper()
	e, got, err := Commit(m.e, id)
	m.took(e, err, want)
	if got != ts {
		m.t.Fatal(got)
	}
}

// written is a machine whose store has a, b and c, of the time 1.
func written(t *testing.T) *machine {
	m := &machine{t: t}
	id := m.begin(100, 1, false, 0)
	for _, k := range []string{"a", "b", "c"} {
		m.put(id, put(k, "1"), 0)
	}
	m.commit(id, 1, 0)
	e, err := Release(m.e, 100)
	m.took(e, err, 0)
	return m
}

func TestSane(t *testing.T) {
	m := written(t)
	m.begin(1, 1, false, 0)
	m.begin(2, 1, true, 0)
	for k, change := range []func(e *Engine){
		func(e *Engine) { e.Store.Ts = -1 }, func(e *Engine) { e.Cert.Txs[0].ID = -1 }, func(e *Engine) { e.Toks.L = []tokens.Entry{{}} }, func(e *Engine) { e.Next = -1 }, func(e *Engine) { e.Next = api.MaxTs + 1 }, func(e *Engine) { e.Next = 2 },
		func(e *Engine) { e.Open[0], e.Open[1] = e.Open[1], e.Open[0] }, func(e *Engine) { e.Open = e.Open[:1] }, func(e *Engine) { e.Cert.Txs = e.Cert.Txs[:1] }, func(e *Engine) { e.Open[0].Snap = 0 }, func(e *Engine) { e.Open[0].RO = true }, func(e *Engine) { e.Open[1].RO = false },
		func(e *Engine) { e.Open[0].Buf.L = []api.Write{{}} }, func(e *Engine) { e.Open[1].Buf.L = []api.Write{put("a", "")} }, func(e *Engine) { e.Open[1].Token = 1 }, func(e *Engine) { e.Open[0].Snap, e.Cert.Txs[0].Begin = 2, 2 },
		func(e *Engine) { e.Cert.Txs = append(e.Cert.Txs, ssi.Tx{ID: 77, State: ssi.Done, End: 2}) },
		func(e *Engine) { e.Store.Chains = e.Store.Chains[:2] }, func(e *Engine) { e.Cert.Reads.L = []reads.Read{{Tx: 88, Rng: api.Range{Open: true}}} },
		func(e *Engine) { e.Open = slices.Clone(e.Open); e.Open[0].ID = 0 },
	} {
		e := m.e
		e.Open, e.Cert.Txs = slices.Clone(e.Open), slices.Clone(e.Cert.Txs)
		change(&e)
		if Sane(e) {
			t.Error(k, tell(e))
		}
		refusesAll(t, k, e)
	}
	if !Sane(m.e) || !Sane(Engine{}) {
		t.Error("may be")
	}
	if Sane(Engine{Next: -1}) || Sane(Engine{Next: api.MaxTs + 1}) || !Sane(Engine{Next: api.MaxTs}) {
		t.Error("next")
	}
	done := Engine{Store: store.Store{Ts: 3}, Next: 1, Open: []Open{{}}}
	done.Cert.Txs = []ssi.Tx{{End: 3, State: ssi.Done}}
	if Sane(done) {
		t.Error("one that is Done is Open")
	}
	many := Engine{Next: 17}
	for i := range 17 {
		many.Open = append(many.Open, Open{ID: i, Token: i})
		many.Cert.Txs = append(many.Cert.Txs, ssi.Tx{ID: i, State: ssi.Active})
	}
	if Sane(many) {
		t.Error("17 open")
	}
}

// refusesAll: of an engine that may not be all calls tell ErrArg, and nothing.
func refusesAll(t *testing.T, k int, e Engine) {
	t.Helper()
	check := func(got Engine, err api.Errno, zero bool) {
		t.Helper()
		if tell(got) != none || err != api.ErrArg || !zero {
			t.Error(k, tell(got), err)
		}
	}
	e1, id, err := Begin(e, 9, 9, false)
	check(e1, err, id == 0)
	e2, v, found, err := Get(e, 1, []byte("a"))
	check(e2, err, v == nil && !found)
	e3, l, err := Scan(e, 1, api.Range{Open: true}, 9)
	check(e3, err, l == nil)
	e4, err := Put(e, 1, put("a", ""))
	check(e4, err, true)
	e5, ts, err := Commit(e, 1)
	check(e5, err, ts == 0)
	e6, err := Abort(e, 1)
	check(e6, err, true)
	e7, ts, err := Status(e, 1, 1)
	check(e7, err, ts == 0)
	e8, err := Release(e, 1)
	check(e8, err, true)
	if o, ok := Find(e, 1); ok || o.ID != 0 {
		t.Error(k, "find")
	}
}

func TestBegin(t *testing.T) {
	m := &machine{t: t}
	if m.begin(1, 1, false, 0) != 0 || m.begin(2, 3, true, 0) != 1 {
		t.Error("IDs")
	}
	m.begin(2, 3, false, api.ErrFenced)
	m.begin(2, 2, false, api.ErrFenced)
	m.begin(-1, 1, false, api.ErrArg)
	m.begin(3, 65536, false, api.ErrArg)
	if got := tell(m.e); got != "ts0 next2 open0/1/1@0 open1/2/3@0 tx0:1 tx1:1 tok1/1:1@0 tok2/3:1@0" {
		t.Error(got)
	}
	// A later attempt gives the one that is open up.
	if m.begin(2, 4, false, 0) != 2 {
		t.Error("ID")
	}
	if got := tell(m.e); got != "ts0 next3 open0/1/1@0 open2/2/4@0 tx0:1 tx2:1 tok1/1:1@0 tok2/4:1@0" {
		t.Error(got)
	}
	// Also if there is an error behind.
	m.begin(2, 65536, false, api.ErrArg)
	if got := tell(m.e); got != "ts0 next3 open0/1/1@0 tx0:1 tok1/1:1@0 tok2/4:3@0" {
		t.Error(got)
	}
	m.commit(0, 1, 0)
	m.begin(1, 9, false, api.ErrState)
}

func TestBeginUpToItsLimits(t *testing.T) {
	m := &machine{t: t}
	for i := range 16 {
		m.begin(i, 1, false, 0)
	}
	m.begin(99, 1, false, api.ErrBusy)
	m.begin(7, 1, false, api.ErrBusy) // ahead of ErrFenced
	m.begin(7, 2, false, 0)
	for i := range 16 {
		e, err := Abort(m.e, m.e.Open[0].ID)
		m.took(e, err, 0)
		m.begin(16+i, 1, false, 0)
	}
	e, err := Abort(m.e, m.e.Open[0].ID)
	m.took(e, err, 0)
	m.begin(99, 1, false, api.ErrBusy) // 32 tokens
	m.e.Next = api.MaxTs
	m.begin(31, 2, false, api.ErrLimit)
	if _, there := byToken(m.e, 31); there {
		t.Error("not given up")
	}
}

func TestBeginWhenTheCertIsFull(t *testing.T) {
	m := &machine{t: t}
	m.begin(1, 1, false, 0)
	for i := range 63 {
		id := m.begin(2, 1, false, 0)
		m.commit(id, i+1, 0)
		e, err := Release(m.e, 2)
		m.took(e, err, 0)
	}
	m.begin(2, 1, false, api.ErrBusy)
	if got := len(m.e.Toks.L); got != 1 {
		t.Error("its token was started", got)
	}
}

func TestGet(t *testing.T) {
	m := written(t)
	id := m.begin(1, 1, false, 0)
	m.get(99, "a", "", api.ErrState)
	m.get(99, "", "", api.ErrState)
	m.get(id, "", "", api.ErrArg)
	m.get(id, "12345678901234567", "", api.ErrArg)
	m.put(id, put("a", "mine"), 0)
	m.put(id, del("b"), 0)
	m.get(id, "a", "mine", 0)
	m.get(id, "b", "", 0)
	if len(m.e.Cert.Reads.L) != 0 {
		t.Error("what it wrote is read")
	}
	other := m.begin(2, 1, false, 0)
	m.put(other, put("c", "2"), 0)
	m.put(other, put("d", "2"), 0)
	m.commit(other, 2, 0)
	m.get(id, "c", "1", 0) // as of its Snap
	m.get(id, "d", "", 0)
	if len(m.e.Cert.Reads.L) != 2 {
		t.Error(tell(m.e))
	}
}

func TestScan(t *testing.T) {
	m := written(t)
	id := m.begin(1, 1, false, 0)
	all := api.Range{Open: true}
	m.scan(99, api.Range{}, 9, "", api.ErrState)
	m.scan(id, api.Range{}, 9, "", api.ErrArg)
	m.scan(id, api.Range{Hi: []byte("a"), Open: true}, 9, "", api.ErrArg)
	m.scan(id, all, 9, "a1 b1 c1 ", 0)
	m.put(id, put("b", "x"), 0)
	m.put(id, del("a"), 0)
	m.put(id, put("z", "y"), 0)
	m.scan(id, all, 9, "bx c1 zy ", 0)
	m.scan(id, all, 2, "bx c1 ", 0)
	m.scan(id, all, 0, "", 0)
	m.scan(id, api.Range{Lo: []byte("a"), Hi: []byte("c")}, 9, "bx ", 0)
	if len(m.e.Cert.Reads.L) != 2 {
		t.Error(tell(m.e))
	}
	// Those that are deleted do not use the first most up.
	for i := range 20 {
		w := m.begin(9, i+1, false, 0)
		m.put(w, put("m"+strconv.Itoa(10+i), "1"), 0)
		m.commit(w, 2+i, 0)
		e, err := Release(m.e, 9)
		m.took(e, err, 0)
	}
	id = m.begin(2, 1, false, 0)
	for i := range 10 {
		m.put(id, del("m"+strconv.Itoa(10+i)), 0)
	}
	m.scan(id, api.Range{Lo: []byte("m"), Open: true}, 2, "m201 m211 ", 0)
}

func TestReadsThatAreRefusedGiveUp(t *testing.T) {
	m := written(t)
	one, two, three := m.begin(1, 1, false, 0), m.begin(2, 1, false, 0), m.begin(3, 1, false, 0)
	m.get(two, "a", "1", 0)
	m.put(two, put("b", "2"), 0)
	m.put(one, put("a", "2"), 0)
	m.commit(two, 2, 0)
	m.commit(one, 3, 0)
	m.get(three, "b", "", api.ErrAborted)
	if _, ok := Find(m.e, three); ok {
		t.Error("still open")
	}
	if x, _ := tokens.Find(m.e.Toks, 3); x != (tokens.Entry{Tok: 3, Attempt: 1, State: tokens.Fenced}) {
		t.Error(x)
	}
	four := m.begin(3, 2, false, 0)
	for i := range 127 {
		m.get(four, "k"+strconv.Itoa(i), "", 0)
	}
	m.scan(four, api.Range{Open: true}, 1, "", api.ErrBusy)
	if _, ok := Find(m.e, four); ok {
		t.Error("still open")
	}
}

func TestPut(t *testing.T) {
	m := written(t)
	id, ro := m.begin(1, 1, false, 0), m.begin(2, 1, true, 0)
	m.put(99, put("", ""), api.ErrState)
	m.put(ro, put("", ""), api.ErrState)
	m.put(ro, put("a", ""), api.ErrState)
	m.put(id, put("", ""), api.ErrArg)
	m.put(id, put("a", string(make([]byte, 33))), api.ErrArg)
	if _, ok := Find(m.e, ro); !ok {
		t.Error("given up")
	}
	for i := range 16 {
		m.put(id, put("k"+strconv.Itoa(i), ""), 0)
	}
	m.put(id, put("k3", "again"), 0)
	if o, ok := Find(m.e, id); !ok || len(o.Buf.L) != 16 {
		t.Error(o)
	}
	m.put(id, put("k16", ""), api.ErrBusy)
	if _, ok := Find(m.e, id); ok {
		t.Error("still open")
	}
}

func TestCommit(t *testing.T) {
	m := written(t)
	id, ro := m.begin(1, 1, false, 0), m.begin(2, 7, true, 0)
	m.put(id, put("a", "2"), 0)
	m.put(id, del("b"), 0)
	m.commit(99, 0, api.ErrState)
	m.commit(id, 2, 0)
	m.get(ro, "b", "1", 0)
	m.commit(ro, 3, 0)
	if got := tell(m.e); got != "ts3 next3 tok1/1:2@2 tok2/7:2@3 a=2 c=1" {
		t.Error(got)
	}
	if len(m.e.Store.Keys) != 2 {
		t.Error("no vacuum", m.e.Store.Keys)
	}
	m.commit(id, 0, api.ErrState)
}

func TestCommitKeepsWhatTheOldestSees(t *testing.T) {
	m := written(t)
	old := m.begin(1, 1, false, 0)
	for i := range 3 {
		id := m.begin(2+i, 1, false, 0)
		m.put(id, put("a", strconv.Itoa(i)), 0)
		m.commit(id, 2+i, 0)
	}
	if len(m.e.Cert.Txs) != 4 || len(m.e.Store.Chains[0].L) != 4 {
		t.Error(tell(m.e))
	}
	m.get(old, "a", "1", 0)
	m.commit(old, 5, 0)
	if len(m.e.Cert.Txs) != 0 || len(m.e.Store.Chains[0].L) != 1 {
		t.Error(tell(m.e))
	}
}

func TestCommitsThatAreRefusedGiveUp(t *testing.T) {
	m := written(t)
	one, two, three := m.begin(1, 1, false, 0), m.begin(2, 1, false, 0), m.begin(3, 5, false, 0)
	m.get(one, "a", "1", 0)
	m.get(two, "b", "1", 0)
	m.put(one, put("b", "2"), 0)
	m.put(two, put("a", "2"), 0)
	m.put(three, put("b", "3"), 0)
	m.commit(one, 2, 0)
	m.commit(two, 0, api.ErrAborted)
	m.commit(three, 0, api.ErrConflict)
	if got := tell(m.e); got != "ts2 next4 tx1:2 [1a] tok1/1:2@2 tok2/1:3@0 tok3/5:3@0 a=1 b=2 c=1" {
		t.Error(got)
	}
	// A token that is not of that attempt any more.
	id := m.begin(4, 1, false, 0)
	m.e.Toks.L[3].Attempt = 2
	m.commit(id, 0, api.ErrFenced)
	if x, _ := tokens.Find(m.e.Toks, 4); x.State != tokens.Fenced || x.Attempt != 2 || m.e.Store.Ts != 2 {
		t.Error(tell(m.e))
	}
}

func TestCommitOfAFullStore(t *testing.T) {
	m := &machine{t: t}
	for i := range 8 {
		id := m.begin(1, 1, false, 0)
		for j := range 16 {
			m.put(id, put(strconv.Itoa(1000+16*i+j), ""), 0)
		}
		m.commit(id, i+1, 0)
		e, err := Release(m.e, 1)
		m.took(e, err, 0)
	}
	id := m.begin(1, 1, false, 0)
	m.put(id, put("z", ""), 0)
	m.commit(id, 0, api.ErrBusy)
	if x, _ := tokens.Find(m.e.Toks, 1); x.State != tokens.Fenced || len(m.e.Cert.Txs) != 0 {
		t.Error(tell(m.e))
	}
}

func TestCommitAtTheEndOfTime(t *testing.T) {
	m := &machine{t: t, e: Engine{Store: store.Store{Ts: api.MaxTs - 1}}}
	one, two := m.begin(1, 1, false, 0), m.begin(2, 1, false, 0)
	m.commit(one, api.MaxTs, 0)
	m.commit(two, 0, api.ErrLimit)
	if _, ok := Find(m.e, two); ok {
		t.Error("still open")
	}
}

func TestAbort(t *testing.T) {
	m := written(t)
	id := m.begin(1, 3, false, 0)
	m.get(id, "a", "1", 0)
	e, err := Abort(m.e, 99)
	m.took(e, err, api.ErrState)
	e, err = Abort(m.e, id)
	m.took(e, err, 0)
	if got := tell(m.e); got != "ts1 next2 tok1/3:3@0 a=1 b=1 c=1" {
		t.Error(got)
	}
}

func TestStatus(t *testing.T) {
	m := written(t)
	one, two := m.begin(1, 5, false, 0), m.begin(2, 5, false, 0)
	m.commit(one, 2, 0)
	status := func(token, attempt, want int, err api.Errno) {
		t.Helper()
		e, ts, got := Status(m.e, token, attempt)
		if got == api.ErrArg && tell(e) == none {
			e = m.e
		}
		m.took(e, got, err)
		if ts != want {
			t.Error(ts)
		}
	}
	status(1, 1, 2, 0)
	status(1, 9, 2, 0)
	status(-1, 1, 0, api.ErrArg)
	status(2, 65536, 0, api.ErrArg)
	if _, ok := Find(m.e, two); !ok {
		t.Error("given up")
	}
	// The fence is up to the greater one of both: also a lesser attempt fences the one that is open.
	status(2, 3, 0, 0)
	if _, ok := Find(m.e, two); ok {
		t.Error("still open")
	}
	three := m.begin(3, 1, false, 0)
	status(3, 8, 0, 0)
	status(3, 8, 0, 0)
	if _, ok := Find(m.e, three); ok {
		t.Error("still open")
	}
	m.begin(3, 8, false, api.ErrFenced)
	for i := range 29 {
		status(50+i, 1, 0, 0)
	}
	was := tell(m.e)
	status(99, 1, 0, api.ErrBusy)
	if tell(m.e) != was {
		t.Error("changed")
	}
}

func TestStatusLeavesALaterAttemptOpen(t *testing.T) {
	m := written(t)
	id := m.begin(1, 5, false, 0)
	m.e.Toks.L[0].Attempt = 2 // an engine that may be, though no call makes it
	e, _, err := Status(m.e, 1, 3)
	m.took(e, err, 0)
	if _, ok := Find(m.e, id); !ok {
		t.Error("given up")
	}
}

func TestStatusOfATokenThatIsDoneFencesNothing(t *testing.T) {
	m := written(t)
	id := m.begin(1, 5, false, 0)
	m.e.Toks.L[0] = tokens.Entry{Tok: 1, Attempt: 5, State: tokens.Done, Ts: 1}
	e, ts, err := Status(m.e, 1, 5)
	m.took(e, err, 0)
	if _, ok := Find(m.e, id); !ok || ts != 1 {
		t.Error("given up", ts)
	}
}

func TestRelease(t *testing.T) {
	m := written(t)
	id := m.begin(1, 5, false, 0)
	for _, x := range []struct {
		token int
		want  api.Errno
	}{{1, api.ErrState}, {2, api.ErrName}} {
		e, err := Release(m.e, x.token)
		m.took(e, err, x.want)
	}
	if e, err := Release(m.e, -1); err != api.ErrArg || tell(e) != none {
		t.Error(err, tell(e))
	}
	if e, _, err := Status(m.e, -1, 1); err != api.ErrArg || tell(e) != none {
		t.Error(err, tell(e))
	}
	m.commit(id, 2, 0)
	e, err := Release(m.e, 1)
	m.took(e, err, 0)
	if len(m.e.Toks.L) != 0 {
		t.Error(tell(m.e))
	}
}

func TestFind(t *testing.T) {
	m := written(t)
	id := m.begin(1, 5, true, 0)
	if o, ok := Find(m.e, id); !ok || o.ID != id || o.Token != 1 || o.Attempt != 5 || o.Snap != 1 || !o.RO {
		t.Error(o, ok)
	}
	if o, ok := Find(m.e, 99); ok || o.ID != 0 {
		t.Error(o, ok)
	}
}

// saw is what one that was open was told, ahead of what it wrote itself, and what it wrote.
type saw struct {
	snap, ts int
	ranges   []api.Range
	told     []string
	asked    []api.Range
	buf      buffer.Buf
}

// hits: is a key of b's among what a has read?
func hits(a, b saw) bool {
	for _, r := range a.ranges {
		if buffer.Touches(b.buf, r) {
			return true
		}
	}
	return false
}

// first: must a come ahead of b?
func first(a, b saw) bool {
	both := false
	for _, w := range a.buf.L {
		_, there := buffer.Get(b.buf, w.Key)
		both = both || there
	}
	return both && a.ts < b.ts || hits(b, a) && a.ts <= b.snap || hits(a, b) && b.ts > a.snap
}

// told is what a scan of a range of a plain map tells.
func told(plain map[string]string, r api.Range) string {
	var ks []string
	for k := range plain {
		if keys.Has(r, []byte(k)) {
			ks = append(ks, k)
		}
	}
	slices.Sort(ks)
	out := ""
	for _, k := range ks {
		out += k + plain[k] + " "
	}
	return out
}

// replay runs what was done in an order, on a plain map; false, if there is none, or one was told otherwise.
func replay(l []saw) (map[string]string, bool) {
	plain := map[string]string{}
	for len(l) > 0 {
		at := slices.IndexFunc(l, func(x saw) bool {
			return !slices.ContainsFunc(l, func(y saw) bool { return y.ts != x.ts && first(y, x) })
		})
		if at < 0 {
			return nil, false
		}
		for i, r := range l[at].asked {
			if told(plain, r) != l[at].told[i] {
				return nil, false
			}
		}
		for _, w := range l[at].buf.L {
			delete(plain, string(w.Key))
			if !w.Del {
				plain[string(w.Key)] = string(w.Val)
			}
		}
		l = slices.Delete(slices.Clone(l), at, at+1)
	}
	return plain, true
}

func TestThereIsAnOrderOfAllThatWereDone(t *testing.T) {
	v := uint32(11)
	dice := func(n int) int {
		v = v*1664525 + 1013904223
		return int(v>>16) % n
	}
	done := 0
	for range 300 {
		e := Engine{}
		open := map[int]saw{}
		var all []saw
		for n := range 60 {
			id := max(0, e.Next-1-dice(4))
			x, there := open[id]
			k := []byte{byte('a' + dice(5))}
			switch what := dice(9); {
			case what < 2:
				next, id, err := Begin(e, n%20, n, dice(5) == 0)
				if e = next; err == api.OK {
					open[id] = saw{snap: e.Store.Ts}
				}
			case what < 5 && there:
				r := keys.One(k)
				if what == 4 {
					r = api.Range{Lo: k, Open: dice(2) == 0}
					if !r.Open {
						r.Hi = []byte{k[0] + 2}
					}
				}
				next, l, err := Scan(e, id, r, 99)
				if e = next; err != api.OK {
					delete(open, id)
					break
				}
				x.ranges = append(slices.Clone(x.ranges), r)
				if !buffer.Touches(x.buf, r) {
					out := ""
					for _, y := range l {
						out += string(y.Key) + string(y.Val) + " "
					}
					x.asked, x.told = append(slices.Clone(x.asked), r), append(slices.Clone(x.told), out)
				}
				open[id] = x
			case what < 7 && there:
				w := api.Write{Key: k, Del: dice(4) == 0}
				if !w.Del {
					w.Val = []byte(strconv.Itoa(n))
				}
				next, err := Put(e, id, w)
				if e = next; err == api.OK {
					x.buf, _ = buffer.Set(x.buf, w)
					open[id] = x
				}
			case what < 8 && there:
				next, ts, err := Commit(e, id)
				e = next
				delete(open, id)
				if err == api.OK {
					x.ts = ts
					all = append(all, x)
					done++
				}
			case what == 8 && dice(5) == 0:
				e, _ = Release(e, n%20)
			}
			for id := range open { // a later attempt has given some up
				if _, ok := Find(e, id); !ok {
					delete(open, id)
				}
			}
			if !Sane(e) {
				t.Fatal(tell(e))
			}
		}
		plain, ok := replay(all)
		left := ""
		for _, x := range store.Latest(e.Store) {
			left += string(x.Key) + string(x.Val) + " "
		}
		if !ok || told(plain, api.Range{Open: true}) != left {
			t.Fatal(ok, left, plain)
		}
	}
	if done < 1000 {
		t.Error(done)
	}
}
