package client

import (
	"bytes"
	"slices"
	"testing"

	"godwit/api"
	"godwit/frame"
	"godwit/msg"
	"godwit/prog"
	"godwit/retry"
	"godwit/stream"
)

// config is what clients of these tests are made of: delays of 2, 4 and 5.
func config() Config {
	return Config{Who: 3, Plan: retry.Plan{Wait: 2, Most: 5, Tries: 3}, Attempts: 4, Budget: 3}
}

// get, put and stop are operations.
func get() prog.Op  { return prog.Op{What: prog.Get, A: 0, B: 1, Key: []byte("k")} }
func put() prog.Op  { return prog.Op{What: prog.Put, B: 0, Key: []byte("k")} }
func stop() prog.Op { return prog.Op{What: prog.Stop} }

// task is a task of some operations.
func task(token int, l ...prog.Op) Task { return Task{Token: token, Prog: prog.Prog{Ops: l}} }

// rig is a client, and checks on it.
type rig struct {
	t *testing.T
	c Client
}

func (r *rig) sane() {
	r.t.Helper()
	if !Sane(r.c) {
		r.t.Fatalf("not sane: %+v", r.c)
	}
}

// fresh is a client that has some tasks, and no connection yet.
func fresh(t *testing.T, g Config, tasks ...Task) *rig {
	t.Helper()
	c, e := New(g)
	if e != api.OK {
		t.Fatal(e)
	}
	r := &rig{t: t, c: c}
	for _, x := range tasks {
		r.submit(x, 0)
	}
	r.sane()
	return r
}

// greeted is one that has a connection, and was answered its Hello.
func greeted(t *testing.T, g Config, tasks ...Task) *rig {
	t.Helper()
	r := fresh(t, g, tasks...)
	r.connect()
	r.reply(msg.Reply{})
	return r
}

func (r *rig) submit(x Task, want api.Errno) {
	r.t.Helper()
	c, e := Submit(r.c, x)
	if e != want {
		r.t.Fatal(e)
	}
	if e == api.OK {
		r.c = c
		r.sane()
	}
}

// connect connects, and checks the Hello.
func (r *rig) connect() {
	r.t.Helper()
	c, e := Connected(r.c)
	if e != api.OK {
		r.t.Fatal(e)
	}
	r.c = c
	r.sent(msg.Req{Kind: msg.Hello, Token: r.c.Cfg.Who, Attempt: r.c.Epoch})
}

// sent drains, and holds what is to be sent against one request.
func (r *rig) sent(want msg.Req) {
	r.t.Helper()
	want.Seq = r.c.Req.Seq
	c, b := Drain(r.c)
	if len(c.Out) != 0 {
		r.t.Fatal("not drained")
	}
	r.c = c
	r.sane()
	l, _, e := frame.All(b)
	if e != api.OK || len(l) != 1 {
		r.t.Fatal("sent", len(l), e, r.c.Phase)
	}
	q, e := msg.ReadReq(l[0])
	if e != api.OK || !msg.SameReq(q, want) || !msg.SameReq(q, r.c.Req) {
		r.t.Fatal("sent", q, "want", want)
	}
}

// framed is a reply as bytes.
func framed(q msg.Reply) []byte {
	payload, _ := msg.PutReply(q)
	b, _ := frame.Put(nil, payload)
	return b
}

// reply answers what was asked last.
func (r *rig) reply(q msg.Reply) {
	r.t.Helper()
	q.Kind, q.Seq = r.c.Req.Kind, r.c.Req.Seq
	r.data(framed(q))
}

func (r *rig) data(b []byte) {
	r.t.Helper()
	r.c = Data(r.c, b)
	r.sane()
}

func (r *rig) tick(n int) {
	r.t.Helper()
	c, e := Tick(r.c, n)
	if e != api.OK {
		r.t.Fatal(e)
	}
	r.c = c
	r.sane()
}

func (r *rig) down() {
	r.t.Helper()
	r.c = Down(r.c)
	r.sane()
}

// is holds the phase, the attempt and what is left to wait against what they are to be.
func (r *rig) is(phase, attempt, left int) {
	r.t.Helper()
	if r.c.Phase != phase || r.c.Attempt != attempt || r.c.Left != left {
		r.t.Fatalf("phase %d attempt %d left %d, want %d %d %d", r.c.Phase, r.c.Attempt, r.c.Left, phase, attempt, left)
	}
}

// done holds the reports against what they are to be.
func (r *rig) done(want ...Report) {
	r.t.Helper()
	if !slices.Equal(r.c.Done, want) {
		r.t.Fatal(r.c.Done, "want", want)
	}
}

// atEnd is one that has asked for the end of its first attempt.
func atEnd(t *testing.T, g Config, tasks ...Task) *rig {
	t.Helper()
	r := greeted(t, g, tasks...)
	r.sent(msg.Req{Kind: msg.Begin, Token: r.c.Tasks[0].Token, Attempt: 1})
	r.reply(msg.Reply{})
	r.sent(msg.Req{Kind: msg.Commit})
	r.is(End, 1, 2)
	return r
}

func TestPhasesAndCodes(t *testing.T) {
	for i, n := range []int{Idle, Lost, Greet, Begin, Run, End, Quit, Ask, Back, Free, Pause, Dead} {
		if i != n {
			t.Error(i, n)
		}
	}
	for i, n := range []int{0, Committed, Aborted, Exhausted, Unknown} {
		if i != n {
			t.Error(i, n)
		}
	}
}

func TestNew(t *testing.T) {
	c, e := New(config())
	if e != api.OK || c.Phase != Lost || c.Epoch != 1 || c.Seq != 0 || len(c.Tasks) != 0 || !Sane(c) {
		t.Error(c, e)
	}
	for k, f := range []func(g *Config){
		func(g *Config) { g.Who = -1 }, func(g *Config) { g.Who = 1<<20 + 1 }, func(g *Config) { g.Plan.Wait = 0 }, func(g *Config) { g.Plan.Tries = 0 }, func(g *Config) { g.Attempts = 0 }, func(g *Config) { g.Attempts = 1001 }, func(g *Config) { g.Budget = -1 }, func(g *Config) { g.Budget = 1001 },
	} {
		g := config()
		f(&g)
		if c, e := New(g); e != api.ErrArg || c.Epoch != 0 || c.Cfg != (Config{}) {
			t.Error(k, e)
		}
	}
	if _, e := New(Config{Who: 0, Plan: retry.Plan{Wait: 1, Most: 1, Tries: 1}, Attempts: 1}); e != api.OK {
		t.Error(e)
	}
	if _, e := New(Config{Who: 1 << 20, Plan: retry.Plan{Wait: 1, Most: 1, Tries: 1}, Attempts: 1000, Budget: 1000}); e != api.OK {
		t.Error(e)
	}
}

func TestSane(t *testing.T) {
	base := atEnd(t, config(), task(1), task(2)).c
	nine := func() []Task {
		var l []Task
		for i := range 9 {
			l = append(l, task(i))
		}
		return l
	}
	for k, f := range []func(c *Client){
		func(c *Client) { c.Cfg.Who = -1 }, func(c *Client) { c.Phase = -1 }, func(c *Client) { c.Phase = 12 }, func(c *Client) { c.Epoch = 0 }, func(c *Client) { c.Epoch = 65536 }, func(c *Client) { c.Seq = -1 }, func(c *Client) { c.Seq = api.MaxSeq + 2 },
		func(c *Client) { c.Attempt = -1 }, func(c *Client) { c.Attempt = 5 }, func(c *Client) { c.Attempt = 0 }, func(c *Client) { c.Sent = -1 }, func(c *Client) { c.Left = -1 }, func(c *Client) { c.Resets = -1 }, func(c *Client) { c.Resets = 1002 },
		func(c *Client) { c.Tasks = nine() }, func(c *Client) { c.Tasks = []Task{task(1), task(1)} }, func(c *Client) { c.Tasks = []Task{task(-1)} }, func(c *Client) { c.Tasks = []Task{task(api.MaxTs + 1)} }, func(c *Client) { c.Tasks = []Task{task(1, prog.Op{})} }, func(c *Client) { c.Tasks = nil },
		func(c *Client) { c.Phase, c.Tasks = Pause, nil }, func(c *Client) { c.Phase = Idle }, func(c *Client) { c.Phase = Dead }, func(c *Client) { c.Req = msg.Req{} }, func(c *Client) { c.Phase, c.Req = Free, msg.Req{} }, func(c *Client) { c.Phase, c.Req = Greet, msg.Req{} },
		func(c *Client) { c.In.Dead = 1 }, func(c *Client) { c.Out = make([]byte, 65537) },
	} {
		c := base
		f(&c)
		if Sane(c) {
			t.Error("may not be", k)
		}
		a, e1 := Submit(c, task(9))
		b, e2 := Connected(c)
		d, e3 := Tick(c, 1)
		x, out := Drain(c)
		for _, y := range []Client{a, b, d, x, Down(c), Data(c, nil)} {
			if y.Epoch != 0 || y.Tasks != nil || y.Cfg != (Config{}) {
				t.Error("not nothing", k)
			}
		}
		if e1 != api.ErrArg || e2 != e1 || e3 != e1 || out != nil {
			t.Error(k, e1, e2, e3)
		}
	}
	for k, f := range []func(c *Client){
		func(c *Client) {}, func(c *Client) { c.Phase, c.Req = Back, msg.Req{} }, func(c *Client) { c.Phase, c.Req = Pause, msg.Req{} }, func(c *Client) { c.Phase, c.Attempt = Lost, 0 }, func(c *Client) { c.Phase, c.Tasks, c.Req = Idle, nil, msg.Req{} }, func(c *Client) { c.Phase, c.Tasks, c.Req = Dead, nil, msg.Req{} },
		func(c *Client) { c.Out = make([]byte, 65536) }, func(c *Client) { c.Seq, c.Epoch, c.Resets, c.Attempt = api.MaxSeq+1, 65535, 1001, 4 }, func(c *Client) { c.Tasks = nine()[:8] },
	} {
		c := base
		f(&c)
		if !Sane(c) {
			t.Error("may be", k)
		}
	}
}

func TestSubmit(t *testing.T) {
	r := fresh(t, config(), task(1))
	r.submit(task(-1), api.ErrArg)
	r.submit(task(api.MaxTs+1), api.ErrArg)
	r.submit(task(1, prog.Op{}), api.ErrArg)
	r.submit(task(1), api.ErrState)
	for i := range 7 {
		r.submit(task(10+i), 0)
	}
	r.submit(task(1), api.ErrState)
	r.submit(task(2), api.ErrBusy)
	r.is(Lost, 0, 0)
	r = greeted(t, config())
	r.is(Idle, 0, 0)
	r.submit(task(7), 0)
	r.is(Begin, 1, 2)
	r.sent(msg.Req{Kind: msg.Begin, Token: 7, Attempt: 1})
	r.submit(task(8), 0)
	r.is(Begin, 1, 2)
	dead, _ := New(config())
	dead.Phase = Dead
	if c, e := Submit(dead, task(1)); e != api.ErrClosed || c.Epoch != 0 {
		t.Error(e)
	}
	if _, e := Submit(dead, task(-1)); e != api.ErrArg {
		t.Error(e)
	}
}

func TestWhatIsBegunIsNew(t *testing.T) {
	r := greeted(t, config())
	r.c.Risk = true
	r.c.St.Stopped = true
	r.submit(task(7), 0)
	if r.c.Risk || r.c.St.Stopped {
		t.Error(r.c)
	}
}

func TestConnected(t *testing.T) {
	r := fresh(t, config())
	r.c.Seq = 99
	r.connect()
	r.is(Greet, 0, 2)
	if r.c.Req.Seq != 0 || r.c.Seq != 1 {
		t.Error(r.c.Seq)
	}
	if c, e := Connected(r.c); e != api.ErrState || c.Epoch != 0 {
		t.Error(e)
	}
	r.reply(msg.Reply{Code: api.ErrFenced})
	r.is(Lost, 0, 0)
	if r.c.Epoch != 2 || r.c.Resets != 1 {
		t.Error(r.c)
	}
}

func TestATaskIsCommitted(t *testing.T) {
	r := greeted(t, config(), task(7, get(), prog.Op{What: prog.Add, A: 0, B: 2, N: 1}, put()), task(8))
	r.sent(msg.Req{Kind: msg.Begin, Token: 7, Attempt: 1})
	r.reply(msg.Reply{})
	r.is(Run, 1, 2)
	r.sent(msg.Req{Kind: msg.Get, Key: []byte("k")})
	r.reply(msg.Reply{Found: true, Val: []byte{41}})
	r.sent(msg.Req{Kind: msg.Put, Key: []byte("k"), Val: []byte{42, 0, 0, 0}})
	if len(r.c.Tried) != 0 || r.c.Risk {
		t.Error("tried too early")
	}
	r.reply(msg.Reply{})
	r.sent(msg.Req{Kind: msg.Commit})
	regs := [8]int{42, 1}
	if !slices.Equal(r.c.Tried, []Tried{{7, 1, regs}}) || !r.c.Risk {
		t.Error(r.c.Tried)
	}
	r.reply(msg.Reply{N: 5})
	r.is(Free, 1, 2)
	r.done(Report{7, Committed, 1, 5, regs})
	if r.c.Risk {
		t.Error("risk")
	}
	r.sent(msg.Req{Kind: msg.Release, Token: 7})
	r.reply(msg.Reply{Code: api.ErrName}) // whatever it is
	r.is(Begin, 1, 2)
	r.sent(msg.Req{Kind: msg.Begin, Token: 8, Attempt: 1})
	if r.c.St != (prog.State{}) || len(r.c.Tasks) != 1 {
		t.Error(r.c.St)
	}
}

func TestTheProgramsROIsAsked(t *testing.T) {
	x := task(7)
	x.Prog.RO = true
	r := greeted(t, config(), x)
	r.sent(msg.Req{Kind: msg.Begin, Token: 7, Attempt: 1, RO: true})
}

func TestAStoppedTaskIsAborted(t *testing.T) {
	for _, code := range []api.Errno{0, api.ErrState} {
		r := greeted(t, config(), task(7, stop()))
		r.sent(msg.Req{Kind: msg.Begin, Token: 7, Attempt: 1})
		r.reply(msg.Reply{})
		r.is(Quit, 1, 2)
		r.sent(msg.Req{Kind: msg.Abort})
		r.reply(msg.Reply{Code: code})
		r.is(Free, 1, 2)
		r.done(Report{Token: 7, Code: Aborted, Attempt: 1})
		if len(r.c.Tried) != 0 {
			t.Error(r.c.Tried)
		}
	}
}

// spread is the plan's Spread of a try.
func spread(n int) int {
	d, _ := retry.Spread(config().Plan, n, 3)
	return d
}

func TestItTriesAgain(t *testing.T) {
	r := greeted(t, config(), task(7, get()))
	r.sent(msg.Req{Kind: msg.Begin, Token: 7, Attempt: 1})
	r.reply(msg.Reply{Code: api.ErrBusy})
	r.is(Back, 2, spread(1))
	r.data(framed(msg.Reply{Kind: msg.Begin, Seq: r.c.Req.Seq})) // in Back nothing is awaited
	r.tick(spread(1) - 1)
	r.is(Back, 2, 1)
	r.tick(1)
	r.is(Begin, 2, 2)
	r.sent(msg.Req{Kind: msg.Begin, Token: 7, Attempt: 2})
	r.reply(msg.Reply{})
	r.sent(msg.Req{Kind: msg.Get, Key: []byte("k")})
	r.reply(msg.Reply{Code: api.ErrState})
	r.is(Back, 3, spread(2))
	r.tick(100)
	r.sent(msg.Req{Kind: msg.Begin, Token: 7, Attempt: 3})
	r.reply(msg.Reply{})
	r.sent(msg.Req{Kind: msg.Get, Key: []byte("k")})
	r.reply(msg.Reply{})
	r.sent(msg.Req{Kind: msg.Commit})
	r.reply(msg.Reply{Code: api.ErrConflict})
	r.is(Back, 4, spread(2)) // no further than the last try of the plan
	if r.c.Risk {
		t.Error("risk")
	}
	r.tick(100)
	r.sent(msg.Req{Kind: msg.Begin, Token: 7, Attempt: 4})
	r.reply(msg.Reply{Code: api.ErrFenced})
	r.is(Free, 4, 2)
	r.done(Report{Token: 7, Code: Exhausted, Attempt: 4})
	r.sent(msg.Req{Kind: msg.Release, Token: 7})
}

func TestARunThatCanNotBeTakenTriesAgain(t *testing.T) {
	r := greeted(t, config(), task(7, get()))
	r.reply(msg.Reply{})
	r.is(Run, 1, 2)
	r.c.St.PC = -5
	r.reply(msg.Reply{})
	r.is(Back, 2, spread(1))
}

func TestStatesAreAskedFor(t *testing.T) {
	r := greeted(t, config(), task(7))
	r.sent(msg.Req{Kind: msg.Begin, Token: 7, Attempt: 1})
	r.reply(msg.Reply{Code: api.ErrState})
	r.is(Ask, 1, 2)
	r.sent(msg.Req{Kind: msg.Status, Token: 7, Attempt: 1})
	r.reply(msg.Reply{N: 1})
	r.done(Report{Token: 7, Code: Unknown, Attempt: 1, Ts: 1}) // it was never tried by this client
	r = atEnd(t, config(), task(7))
	r.reply(msg.Reply{Code: api.ErrState})
	r.is(Ask, 1, 2)
	r.sent(msg.Req{Kind: msg.Status, Token: 7, Attempt: 1})
	r.reply(msg.Reply{N: 1})
	r.done(Report{Token: 7, Code: Committed, Attempt: 1, Ts: 1})
}

func TestAsk(t *testing.T) {
	ask := func(l ...prog.Op) *rig {
		r := greeted(t, config(), task(7, l...))
		r.reply(msg.Reply{})
		r.down()
		r.connect()
		r.reply(msg.Reply{})
		r.sent(msg.Req{Kind: msg.Status, Token: 7, Attempt: 1})
		r.is(Ask, 1, 2)
		return r
	}
	r := ask()
	r.reply(msg.Reply{})
	r.is(Back, 2, spread(1))
	r.done()
	r = ask(stop())
	r.reply(msg.Reply{})
	r.is(Free, 1, 2)
	r.done(Report{Token: 7, Code: Aborted, Attempt: 1})
	r = ask()
	r.reply(msg.Reply{Code: api.ErrBusy})
	r.is(Pause, 1, 2)
	r.data(framed(msg.Reply{Kind: msg.Status, Seq: r.c.Req.Seq})) // in Pause nothing is awaited
	r.tick(2)
	r.is(Ask, 1, 2)
	r.sent(msg.Req{Kind: msg.Status, Token: 7, Attempt: 1})
}

func TestTheReplyToACommitIsLost(t *testing.T) {
	r := atEnd(t, config(), task(7))
	r.down()
	r.is(Lost, 1, 0)
	if !r.c.Risk || r.c.Epoch != 2 {
		t.Error(r.c.Risk, r.c.Epoch)
	}
	r.connect()
	r.reply(msg.Reply{})
	r.sent(msg.Req{Kind: msg.Status, Token: 7, Attempt: 1})
	r.reply(msg.Reply{N: 3})
	r.done(Report{Token: 7, Code: Committed, Attempt: 1, Ts: 3})
}

func TestWhatIsNotAwaitedIsLeftOut(t *testing.T) {
	r := atEnd(t, config(), task(7))
	was := r.c
	r.data(framed(msg.Reply{Kind: msg.Commit, Seq: r.c.Req.Seq + 1}))
	r.data(framed(msg.Reply{Kind: msg.Commit, Seq: r.c.Req.Seq - 1}))
	r.data(framed(msg.Reply{Kind: msg.Abort, Seq: r.c.Req.Seq}))
	r.data(framed(msg.Reply{}))
	if r.c.Phase != was.Phase || r.c.Left != was.Left || len(r.c.Done) != 0 {
		t.Error(r.c)
	}
	b := framed(msg.Reply{Kind: msg.Commit, Seq: r.c.Req.Seq, N: 1})
	r.data(b[:7])
	r.is(End, 1, 2)
	r.data(append(b[7:], b...)) // the same once more is left out
	r.is(Free, 1, 2)
}

func TestWhatIsNoReplyLosesTheConnection(t *testing.T) {
	bad, _ := frame.Put(nil, []byte{99})
	turned := framed(msg.Reply{})
	turned[8] ^= 1
	for k, b := range [][]byte{bad, turned, {255, 255}} {
		r := atEnd(t, config(), task(7))
		r.data(slices.Concat(framed(msg.Reply{}), b, framed(msg.Reply{Kind: msg.Commit, Seq: r.c.Req.Seq, N: 1})))
		r.is(Lost, 1, 0)
		if r.c.Resets != 1 || len(r.c.In.Buf) != 0 || r.c.In.Dead != 0 || len(r.c.Done) != 0 {
			t.Error(k, r.c)
		}
		was := r.c
		r.data(framed(msg.Reply{}))
		r.data([]byte{1})
		if r.c.Phase != was.Phase || r.c.Resets != was.Resets || len(r.c.In.Buf) != 0 {
			t.Error("lost, and fed", k)
		}
	}
	// A payload ahead of the turned one still counts, and the connection is lost once.
	r := atEnd(t, config(), task(7))
	r.data(slices.Concat(framed(msg.Reply{Kind: msg.Commit, Seq: r.c.Req.Seq, N: 1}), turned))
	r.done(Report{Token: 7, Code: Committed, Attempt: 1, Ts: 1})
	r.is(Lost, 0, 0)
	r = atEnd(t, config(), task(7))
	r.data(slices.Concat(bad, turned))
	if r.c.Resets != 1 {
		t.Error(r.c.Resets)
	}
}

func TestTickSendsAgain(t *testing.T) {
	r := atEnd(t, config(), task(7))
	r.tick(1)
	r.is(End, 1, 1)
	r.tick(0)
	r.is(End, 1, 1)
	r.tick(1)
	r.is(End, 1, 4)
	r.sent(msg.Req{Kind: msg.Commit})
	r.tick(100)
	r.is(End, 1, 5)
	r.sent(msg.Req{Kind: msg.Commit})
	if r.c.Sent != 2 {
		t.Error(r.c.Sent)
	}
	other := &rig{t: t, c: r.c}
	other.reply(msg.Reply{N: 1})
	if other.c.Sent != 0 || other.c.Left != 2 {
		t.Error("another request, and sent already", other.c.Sent)
	}
	r.tick(5)
	r.is(Lost, 1, 0)
	for _, n := range []int{-1, 1<<30 + 1} {
		if c, e := Tick(r.c, n); e != api.ErrArg || c.Epoch != 0 {
			t.Error(n, e)
		}
	}
	r.tick(1 << 30)
	r.is(Lost, 1, 0)
	r = greeted(t, config())
	r.tick(9)
	r.is(Idle, 0, 0)
}

func TestTickOfFreeSendsAgain(t *testing.T) {
	r := atEnd(t, config(), task(7), task(8))
	r.reply(msg.Reply{N: 1})
	r.sent(msg.Req{Kind: msg.Release, Token: 7})
	r.tick(2)
	r.sent(msg.Req{Kind: msg.Release, Token: 7})
	r.tick(4)
	r.tick(5)
	r.is(Lost, 0, 0)
	if len(r.c.Tasks) != 1 || r.c.Tasks[0].Token != 8 {
		t.Error(r.c.Tasks)
	}
}

func TestDown(t *testing.T) {
	r := atEnd(t, config(), task(7))
	r.c.Out = []byte{1}
	r.c.In = stream.Stream{Buf: []byte{1}}
	r.down()
	if r.c.Phase != Lost || r.c.Resets != 1 || r.c.Epoch != 2 || len(r.c.Out) != 0 || len(r.c.In.Buf) != 0 || len(r.c.Tasks) != 1 {
		t.Error(r.c)
	}
	r.down()
	if r.c.Resets != 1 || r.c.Epoch != 2 {
		t.Error("lost twice")
	}
}

func TestDrain(t *testing.T) {
	r := fresh(t, config())
	c, _ := Connected(r.c)
	c, b := Drain(c)
	if len(b) == 0 || len(c.Out) != 0 {
		t.Error(b)
	}
	if c, b := Drain(c); len(b) != 0 || c.Phase != Greet {
		t.Error(b)
	}
}

// spent is one whose next loss is the last one it may have.
func spent(r *rig) *rig {
	r.c.Resets = r.c.Cfg.Budget
	return r
}

func TestDying(t *testing.T) {
	r := spent(atEnd(t, config(), task(7), task(8), task(9)))
	r.down()
	r.is(Dead, 1, 0)
	r.done(Report{Token: 7, Code: Unknown, Attempt: 1}, Report{Token: 8, Code: Exhausted}, Report{Token: 9, Code: Exhausted})
	if len(r.c.Tasks) != 0 || r.c.Resets != 4 || r.c.Epoch != 1 {
		t.Error(r.c)
	}
	r.data([]byte{255, 255})
	r.down()
	r.tick(5)
	r.is(Dead, 1, 0)

	r = spent(greeted(t, config(), task(7, stop()), task(8)))
	r.reply(msg.Reply{})
	r.is(Quit, 1, 2)
	r.down()
	r.done(Report{Token: 7, Code: Aborted, Attempt: 1}, Report{Token: 8, Code: Exhausted})

	r = spent(greeted(t, config(), task(7), task(8)))
	r.down()
	r.done(Report{Token: 7, Code: Exhausted, Attempt: 1}, Report{Token: 8, Code: Exhausted})

	r = spent(fresh(t, config(), task(7)))
	r.connect()
	r.down()
	r.done(Report{Token: 7, Code: Exhausted})

	r = spent(atEnd(t, config(), task(7), task(8)))
	r.reply(msg.Reply{N: 4})
	r.down()
	r.done(Report{Token: 7, Code: Committed, Attempt: 1, Ts: 4}, Report{Token: 8, Code: Exhausted})

	r = greeted(t, config(), task(7, stop()), task(8))
	r.reply(msg.Reply{})
	r.reply(msg.Reply{})
	r.is(Free, 1, 2)
	r.down() // the task that was stopped is gone, and the other one is not begun
	r.is(Lost, 0, 0)
	spent(r).connect()
	r.down()
	r.done(Report{Token: 7, Code: Aborted, Attempt: 1}, Report{Token: 8, Code: Exhausted})

	r = spent(greeted(t, config()))
	r.down()
	r.done()
	r.is(Dead, 0, 0)
}

func TestResetsAreCountedUpTo1001(t *testing.T) {
	g := config()
	g.Budget = 1000
	r := fresh(t, g)
	for range 1001 {
		c, e := Connected(r.c)
		if e != api.OK {
			t.Fatal(e)
		}
		r.c = Down(c)
	}
	r.is(Dead, 0, 0)
	if r.c.Resets != 1001 {
		t.Error(r.c.Resets)
	}
	r = atEnd(t, g, task(7))
	r.c.Resets = 1001
	r.down()
	if r.c.Resets != 1001 {
		t.Error(r.c.Resets)
	}
}

func TestAtTheLastEpochItDies(t *testing.T) {
	r := atEnd(t, config(), task(7))
	r.c.Epoch = 65535
	r.c.Out = []byte{1}
	r.down()
	r.is(Dead, 1, 0)
	r.done(Report{Token: 7, Code: Unknown, Attempt: 1})
	if r.c.Epoch != 65535 || r.c.Resets != 1 || len(r.c.Out) != 0 {
		t.Error(r.c)
	}
}

func TestAtTheLastNumberItDies(t *testing.T) {
	r := greeted(t, config(), task(7))
	r.c.Seq = api.MaxSeq + 1
	r.reply(msg.Reply{})
	r.is(Dead, 1, 0)
	r.done(Report{Token: 7, Code: Exhausted, Attempt: 1})
	if len(r.c.Tried) != 0 || r.c.Seq != api.MaxSeq+1 {
		t.Error(r.c.Tried)
	}
	r = greeted(t, config(), task(7))
	r.c.Seq = api.MaxSeq
	r.reply(msg.Reply{})
	r.is(End, 1, 2)
	if r.c.Req.Seq != api.MaxSeq {
		t.Error(r.c.Req)
	}
	r.reply(msg.Reply{N: 6}) // the Release is not sent, but the report stands
	r.is(Dead, 1, 0)
	r.done(Report{Token: 7, Code: Committed, Attempt: 1, Ts: 6})
}

func TestWithTooMuchToSendItDies(t *testing.T) {
	for n, phase := range map[int]int{60000: End, 60001: Dead} {
		r := greeted(t, config(), task(7))
		r.c.Out = make([]byte, n)
		r.reply(msg.Reply{})
		if r.c.Phase != phase {
			t.Error(n, r.c.Phase)
		}
		r = greeted(t, config(), task(7))
		r.c.Out = make([]byte, n)
		r.tick(2)
		if again := r.c.Phase == Begin; again != (n == 60000) || again && len(r.c.Out) <= n {
			t.Error("again", n, r.c.Phase, len(r.c.Out))
		}
	}
}

func TestEachTaskHasOneReportAtMost(t *testing.T) {
	v := uint32(4)
	dice := func(n int) int {
		v = v*1664525 + 1013904223
		return int(v>>16) % n
	}
	reports := 0
	for range 400 {
		g := config()
		g.Budget = dice(10)
		r := fresh(t, g, task(0, get(), put()), task(1, stop()), task(2))
		asked := map[int]int{}
		for range 120 {
			switch dice(8) {
			case 0:
				r.tick(dice(8))
			case 1:
				if dice(4) == 0 {
					r.down()
				}
			case 2:
				if c, e := Connected(r.c); e == api.OK {
					r.c = c
				}
			default:
				codes := []api.Errno{0, 0, 0, 0, 0, api.ErrState, api.ErrAborted}
				r.reply(msg.Reply{Code: codes[dice(7)], N: dice(2) * (1 + dice(5))})
			}
			if r.c.Phase == Begin {
				asked[r.c.Tasks[0].Token] = r.c.Attempt
			}
			r.c, _ = Drain(r.c)
			r.sane()
		}
		seen := map[int]bool{}
		for _, x := range r.c.Done {
			if seen[x.Token] {
				t.Fatal("twice", r.c.Done)
			}
			seen[x.Token] = true
			reports++
		}
		for _, x := range r.c.Tasks {
			if seen[x.Token] && (r.c.Phase != Free || x.Token != r.c.Tasks[0].Token) {
				t.Fatal("reported, and still there", x.Token)
			}
		}
	}
	if reports < 800 {
		t.Error(reports)
	}
}

func TestNothingIsBegunAgainAsLongAsItMayYetBeDone(t *testing.T) {
	v := uint32(8)
	dice := func(n int) int {
		v = v*1664525 + 1013904223
		return int(v>>16) % n
	}
	for range 500 {
		g := config()
		g.Budget = 100
		r := fresh(t, g, task(7))
		atRisk := false // a Commit was sent, and neither refused nor fenced since
		for range 60 {
			was := r.c
			switch dice(6) {
			case 0:
				r.tick(dice(6))
			case 1:
				r.down()
			case 2:
				if c, e := Connected(r.c); e == api.OK {
					r.c = c
				}
			default:
				q := msg.Reply{Code: []api.Errno{0, 0, api.ErrState, api.ErrBusy}[dice(4)]}
				if was.Phase == End && q.Code != 0 && q.Code != api.ErrState || was.Phase == Ask && q.Code == 0 {
					atRisk = false
				}
				r.reply(q)
			}
			if r.c.Phase == Begin && was.Phase != Begin && atRisk {
				t.Fatal("begun again")
			}
			if r.c.Phase == End && was.Phase != End {
				atRisk = true
			}
			if len(r.c.Done) > 0 {
				break
			}
			r.c, _ = Drain(r.c)
		}
	}
}

func TestItIsKeptFromOthers(t *testing.T) {
	r := atEnd(t, config(), task(7), task(8))
	was := r.c
	a := Data(was, framed(msg.Reply{Kind: msg.Commit, Seq: was.Req.Seq, N: 1}))
	b := Data(was, framed(msg.Reply{Kind: msg.Commit, Seq: was.Req.Seq, N: 2}))
	if a.Done[0].Ts != 1 || b.Done[0].Ts != 2 || len(was.Done) != 0 || !bytes.Equal(was.Out, nil) {
		t.Error("shared")
	}
}
