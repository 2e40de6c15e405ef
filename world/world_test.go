package world

import (
	"strconv"
	"testing"

	"godwit/api"
	"godwit/client"
	"godwit/frame"
	"godwit/msg"
	"godwit/net"
	"godwit/prog"
	"godwit/retry"
	"godwit/server"
	"godwit/store"
	"godwit/tokens"
)

// setup is what worlds of these tests are made of.
func setup(clients int) Setup {
	return Setup{Clients: clients, Idle: 1000, Cfg: client.Config{Who: 10, Plan: retry.Plan{Wait: 4, Most: 16, Tries: 5}, Attempts: 50, Budget: 50}}
}

// counter adds one to a key.
func counter(token int, k string) client.Task {
	return client.Task{Token: token, Prog: prog.Prog{Ops: []prog.Op{{What: prog.Get, A: 0, B: 1, Key: []byte(k)}, {What: prog.Add, A: 0, B: 2, N: 1}, {What: prog.Put, B: 0, Key: []byte(k)}}}}
}

// rig is a world, and checks on it.
type rig struct {
	t *testing.T
	w World
}

// made is a world of some clients.
func made(t *testing.T, s Setup) *rig {
	t.Helper()
	w, e := New(s)
	if e != api.OK {
		t.Fatal(e)
	}
	r := &rig{t, w}
	r.sane()
	return r
}

// sane holds the world against what it is to be behind each step.
func (r *rig) sane() {
	r.t.Helper()
	w := r.w
	if !server.Sane(w.Srv) || !net.Sane(w.Net) || len(w.Net.Links) != len(w.Srv.Conns.L) {
		r.t.Fatalf("not sane: %+v", w)
	}
	for i, c := range w.Clients {
		_, linked := net.Of(w.Net, i)
		if !client.Sane(c) || len(c.Out) != 0 || linked == (c.Phase == client.Lost || c.Phase == client.Dead) {
			r.t.Fatalf("client %d: %v %+v", i, linked, c)
		}
	}
	for _, x := range w.Srv.Conns.L {
		if _, linked := net.At(w.Net, x.ID); !linked {
			r.t.Fatal("no link of", x.ID)
		}
	}
}

func (r *rig) step(what, a, b int) {
	r.t.Helper()
	r.w = Step(r.w, Act{What: what, A: a, B: b})
	r.sane()
}

func (r *rig) submit(i int, x client.Task) {
	r.t.Helper()
	r.w = Step(r.w, Act{What: 0, A: i, Task: x})
	r.sane()
}

// round connects whoever is Lost, delivers all that is under way, and lets a little time pass.
func (r *rig) round() {
	r.t.Helper()
	for i := range r.w.Clients {
		r.step(1, i, 0)
	}
	for len(r.w.Net.Packets) > 0 {
		r.step(2, 0, 0)
	}
	r.step(7, 1, 0)
}

// rest does rounds till all is quiet.
func (r *rig) rest(most int) {
	r.t.Helper()
	for range most {
		r.round()
		if Quiet(r.w) {
			return
		}
	}
	r.t.Fatal("not quiet", r.w.Clients)
}

// left is what there is at last, as a text.
func (r *rig) left() string {
	out := ""
	for _, x := range store.Latest(r.w.Srv.Eng.Store) {
		out += string(x.Key) + "=" + strconv.Itoa(prog.Num(x.Val)) + " "
	}
	return out
}

func TestNew(t *testing.T) {
	w, e := New(setup(4))
	if e != api.OK || len(w.Clients) != 4 || w.Srv.Idle != 1000 || len(w.Facts) != 0 || len(w.Net.Links) != 0 {
		t.Error(w, e)
	}
	for i, c := range w.Clients {
		if c.Cfg.Who != 10+i || c.Phase != client.Lost {
			t.Error(i, c)
		}
	}
	bad := setup(2)
	bad.Cfg.Who = 1 << 20 // the second one's is too great
	worse := setup(1)
	worse.Cfg.Attempts = 0
	for k, s := range []Setup{setup(0), setup(5), setup(-1), bad, worse} {
		if w, e := New(s); e != api.ErrArg || w.Clients != nil || w.Srv.Idle != 0 {
			t.Error(k, e)
		}
		if w, e := Run(s, nil); e != api.ErrArg || w.Clients != nil {
			t.Error("run", k, e)
		}
	}
	bad.Clients = 1
	if _, e := New(bad); e != api.OK {
		t.Error(e)
	}
}

func TestATaskIsCommitted(t *testing.T) {
	script := []Act{{What: 1}, {What: 0, Task: counter(0, "a")}}
	for range 20 {
		script = append(script, Act{What: 2})
	}
	w, e := Run(setup(1), script)
	if e != api.OK || !Quiet(w) || len(w.Clients[0].Done) != 1 || w.Clients[0].Done[0].Code != client.Committed {
		t.Fatal(w.Clients, e)
	}
	f := w.Facts
	if len(f) != 1 || f[0].Token != 0 || f[0].Attempt != 1 || f[0].Snap != 0 || f[0].Ts != 1 || len(f[0].Reads) != 1 || string(f[0].Reads[0].Lo) != "a" || len(f[0].Writes) != 1 || prog.Num(f[0].Writes[0].Val) != 1 {
		t.Error(f)
	}
}

func TestActsOfClientsThatThereAreNot(t *testing.T) {
	r := made(t, setup(2))
	for _, a := range []int{-1, 2, 1 << 40} {
		for _, what := range []int{0, 1, 2, 3, 4, 5, 6} {
			r.step(what, a, 0)
		}
	}
	for _, what := range []int{-1, 8, 99} {
		r.step(what, 0, 0)
	}
	r.step(7, -1, 0)
	r.step(6, 0, 0)
	if len(r.w.Net.Links) != 0 || r.w.Srv.Conns.Next != 0 || r.w.Srv.Timers.Now != 0 {
		t.Error(r.w)
	}
}

func TestConnect(t *testing.T) {
	r := made(t, setup(2))
	r.step(1, 1, 0)
	if x, ok := net.Of(r.w.Net, 1); !ok || x.Conn != 0 || len(r.w.Net.Packets) != 1 || !r.w.Net.Packets[0].Up || r.w.Clients[1].Phase != client.Greet {
		t.Error(r.w)
	}
	payload, _, e := frame.Read(r.w.Net.Packets[0].Bytes, 0)
	q, e2 := msg.ReadReq(payload)
	if e != api.OK || e2 != api.OK || !msg.SameReq(q, msg.Req{Kind: msg.Hello, Token: 11, Attempt: 1}) {
		t.Error(q, e, e2)
	}
	r.step(1, 1, 0)
	if len(r.w.Net.Links) != 1 || len(r.w.Srv.Conns.L) != 1 || r.w.Srv.Conns.Next != 1 {
		t.Error("connected twice")
	}
}

func TestConnectWithoutALink(t *testing.T) {
	r := made(t, setup(1))
	r.w.Net.Next = api.MaxTs
	r.step(1, 0, 0)
	if len(r.w.Srv.Conns.L) != 0 || r.w.Clients[0].Phase != client.Lost {
		t.Error("not dropped again")
	}
	r.w.Net.Next = 0
	r.w.Srv.Conns.Next = api.MaxTs
	r.step(1, 0, 0)
	if len(r.w.Net.Links) != 0 {
		t.Error("linked without a connection")
	}
}

func TestPacketsAreLostDoubledAndTurned(t *testing.T) {
	r := made(t, setup(1))
	r.step(1, 0, 0)
	r.step(4, 0, 0)
	if len(r.w.Net.Packets) != 2 {
		t.Error("not doubled")
	}
	r.step(3, 0, 0)
	r.step(5, 0, 100)
	r.step(2, 0, 0) // the sum is another one now
	if r.w.Clients[0].Phase != client.Lost || len(r.w.Srv.Conns.L) != 0 || r.w.Clients[0].Epoch != 2 {
		t.Error(r.w)
	}
	r.rest(5)
}

func TestATurnedReplyCutsTheConnection(t *testing.T) {
	r := made(t, setup(1))
	r.step(1, 0, 0)
	r.step(2, 0, 0)
	r.step(5, 0, 60)
	r.step(2, 0, 0)
	if r.w.Clients[0].Phase != client.Lost || len(r.w.Srv.Conns.L) != 0 || len(r.w.Net.Links) != 0 {
		t.Error(r.w)
	}
}

func TestAPacketOfALinkThatIsCutFindsNone(t *testing.T) {
	r := made(t, setup(1))
	r.step(1, 0, 0)
	r.step(6, 0, 0)
	if len(r.w.Net.Packets) != 1 || r.w.Clients[0].Phase != client.Lost || len(r.w.Srv.Conns.L) != 0 {
		t.Error(r.w)
	}
	r.step(2, 0, 0)
	if len(r.w.Net.Packets) != 0 || r.w.Clients[0].Phase != client.Lost {
		t.Error(r.w)
	}
}

func TestTheReplyToACommitIsLostAndTheConnection(t *testing.T) {
	r := made(t, setup(1))
	r.step(1, 0, 0)
	r.submit(0, counter(7, "a"))
	for len(r.w.Facts) == 0 {
		r.step(2, 0, 0)
	}
	r.step(3, 0, 0)
	r.step(6, 0, 0)
	r.rest(9)
	if d := r.w.Clients[0].Done; len(d) != 1 || d[0].Code != client.Committed || d[0].Attempt != 1 || r.left() != "a=1 " || len(r.w.Facts) != 1 {
		t.Error(d, r.left())
	}
}

func TestTwoClientsAddOneAtOnce(t *testing.T) {
	r := made(t, setup(2))
	r.submit(0, counter(0, "a"))
	r.submit(1, counter(1, "a"))
	r.rest(60)
	if r.left() != "a=2 " || len(r.w.Facts) != 2 {
		t.Error(r.left(), r.w.Facts)
	}
	tries := 0
	for _, c := range r.w.Clients {
		if len(c.Done) != 1 || c.Done[0].Code != client.Committed {
			t.Error(c.Done)
		}
		tries += c.Done[0].Attempt
	}
	if tries != 3 {
		t.Error("one of them tries again", tries)
	}
	if f := r.w.Facts; f[0].Snap != 0 || f[0].Ts != 1 || f[1].Snap != 1 || f[1].Ts != 2 || f[0].Attempt+f[1].Attempt != 3 {
		t.Error(f)
	}
}

func TestABitOfAPacketIsTurned(t *testing.T) {
	r := made(t, setup(1))
	r.step(1, 0, 0)
	r.submit(0, counter(0, "a"))
	for r.w.Clients[0].Phase != client.Run {
		r.step(2, 0, 0)
	}
	r.step(5, 0, 77)
	r.step(2, 0, 0)
	if len(r.w.Srv.Conns.L) != 0 || len(r.w.Srv.Eng.Open) != 0 {
		t.Error("not closed, or not given up")
	}
	if x, _ := tokens.Find(r.w.Srv.Eng.Toks, 0); x.State != tokens.Fenced {
		t.Error(x)
	}
	r.rest(60)
	if d := r.w.Clients[0].Done; len(d) != 1 || d[0].Code != client.Committed || d[0].Attempt != 2 {
		t.Error(d)
	}
}

func TestTickClosesAndSendsAgain(t *testing.T) {
	s := setup(2)
	s.Idle = 10
	r := made(t, s)
	r.step(1, 0, 0)
	r.step(7, 4, 0)
	if len(r.w.Net.Packets) != 2 || r.w.Clients[0].Sent != 1 {
		t.Error("not sent again", r.w.Net.Packets)
	}
	r.step(1, 1, 0)
	r.step(7, 6, 0)
	if r.w.Clients[0].Phase != client.Lost || r.w.Clients[1].Phase != client.Greet || len(r.w.Net.Links) != 1 {
		t.Error(r.w.Clients)
	}
	now := r.w.Srv.Timers.Now
	r.step(7, 1<<30+1, 0) // the server's time goes, no client's
	if r.w.Srv.Timers.Now != now+1<<30+1 || len(r.w.Net.Links) != 0 || r.w.Clients[1].Phase != client.Lost {
		t.Error(r.w.Srv.Timers.Now)
	}
}

func TestAClientThatDiesIsCutOff(t *testing.T) {
	s := setup(1)
	s.Cfg.Budget = 0
	r := made(t, s)
	r.submit(0, counter(0, "a"))
	r.step(1, 0, 0)
	r.step(7, 4, 0)
	r.step(7, 8, 0)
	for r.w.Clients[0].Phase == client.Greet {
		r.step(7, 16, 0)
	}
	if r.w.Clients[0].Phase != client.Dead || len(r.w.Net.Links) != 0 || len(r.w.Srv.Conns.L) != 0 {
		t.Error(r.w.Clients)
	}
	for len(r.w.Net.Packets) > 0 {
		r.step(3, 0, 0)
	}
	if !Quiet(r.w) {
		t.Error("not quiet")
	}
}

func TestQuiet(t *testing.T) {
	r := made(t, setup(2))
	if Quiet(r.w) {
		t.Error("Lost")
	}
	r.rest(3)
	r.step(6, 0, 0)
	if Quiet(r.w) {
		t.Error("one is Lost")
	}
	r.rest(3)
	w := r.w
	w.Net.Packets = []net.Packet{{Link: 0, Bytes: []byte{1}}}
	if Quiet(w) {
		t.Error("something is under way")
	}
	if !Quiet(World{}) {
		t.Error("nothing")
	}
}

func TestStepLeavesItsInputAlone(t *testing.T) {
	r := made(t, setup(2))
	r.submit(0, counter(0, "a"))
	was := r.w
	for i := range 2 {
		Step(was, Act{What: 1, A: i})
		Step(was, Act{What: 7, A: 1})
	}
	if was.Clients[0].Phase != client.Lost || was.Clients[1].Phase != client.Lost || len(was.Srv.Conns.L) != 0 {
		t.Error("changed")
	}
}

func TestWorldsThatMayNotBe(t *testing.T) {
	good := made(t, setup(2))
	good.step(1, 0, 0)
	good.step(1, 1, 0)
	for _, f := range []func(w *World){
		func(w *World) { w.Clients = w.Clients[:1] }, func(w *World) { w.Clients = nil }, func(w *World) { w.Net.Next = 0 }, func(w *World) { w.Srv.Idle = 0 }, func(w *World) { w.Srv.Conns.L = nil }, func(w *World) { w.Clients = []client.Client{{}, {}} }, func(w *World) { w.Net.Links = nil }, func(w *World) { *w = World{} },
		func(w *World) { w.Srv.Eng.Toks.L = []tokens.Entry{{Tok: 5, Attempt: 1, State: tokens.Done, Ts: 1}} },
	} {
		for what := -1; what < 9; what++ {
			for a := -1; a < 3; a++ {
				w := good.w
				f(&w)
				Step(w, Act{What: what, A: a, B: a, Task: counter(3, "a")})
				Quiet(w)
			}
		}
	}
}

// dicer is a source of numbers that look like no pattern.
type dicer struct{ v uint32 }

func (d *dicer) dice(n int) int {
	d.v = d.v*1664525 + 1013904223
	return int(d.v>>16) % n
}

// mess does one thing out of all.
func (r *rig) mess(d *dicer) {
	r.t.Helper()
	switch k := d.dice(40); {
	case k < 5:
		r.step(1, d.dice(len(r.w.Clients)), 0)
	case k < 30:
		r.step(2, d.dice(4), 0)
	case k < 32:
		r.step(3, d.dice(4), 0)
	case k < 34:
		r.step(4, d.dice(4), 0)
	case k < 35:
		r.step(5, d.dice(3), d.dice(2000))
	case k < 36:
		r.step(6, d.dice(len(r.w.Clients)), 0)
	default:
		r.step(7, d.dice(4), 0)
	}
}

func TestWhateverComesItComesToRest(t *testing.T) {
	committed := 0
	for seed := range uint32(40) {
		d := &dicer{seed*7919 + 1}
		r := made(t, setup(1+d.dice(4)))
		tasks := 0
		for range 6 {
			r.submit(d.dice(len(r.w.Clients)), counter(tasks, string(rune('a'+d.dice(2)))))
			tasks++
			for range 40 {
				r.mess(d)
			}
		}
		r.rest(2000)
		done, reported := 0, 0
		for _, c := range r.w.Clients {
			for _, x := range c.Done {
				reported++
				was := 0
				for _, f := range r.w.Facts {
					if f.Token == x.Token {
						was++
					}
				}
				if x.Code == client.Committed && was != 1 || (x.Code == client.Aborted || x.Code == client.Exhausted) && was != 0 || was > 1 {
					t.Fatal(seed, x, was)
				}
				if x.Code == client.Committed {
					done++
				}
			}
		}
		if reported != tasks {
			t.Fatal(seed, "reported", reported, "of", tasks)
		}
		sum := 0
		for _, x := range store.Latest(r.w.Srv.Eng.Store) {
			sum += prog.Num(x.Val)
		}
		if sum != len(r.w.Facts) || done > sum {
			t.Fatal(seed, sum, len(r.w.Facts), done)
		}
		committed += done
	}
	if committed < 100 {
		t.Error(committed)
	}
}
