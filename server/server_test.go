package server

import (
	"slices"
	"strconv"
	"testing"

	"godwit/api"
	"godwit/frame"
	"godwit/msg"
	"godwit/seqs"
	"godwit/store"
	"godwit/tokens"
	"godwit/txn"
)

// greet, start and so on are requests, without a number.
func greet(who, epoch int) msg.Req { return msg.Req{Kind: msg.Hello, Token: who, Attempt: epoch} }
func start(token, attempt int) msg.Req {
	return msg.Req{Kind: msg.Begin, Token: token, Attempt: attempt}
}
func get(k string) msg.Req    { return msg.Req{Kind: msg.Get, Key: []byte(k)} }
func put(k, v string) msg.Req { return msg.Req{Kind: msg.Put, Key: []byte(k), Val: []byte(v)} }
func del(k string) msg.Req    { return msg.Req{Kind: msg.Del, Key: []byte(k)} }
func scan() msg.Req           { return msg.Req{Kind: msg.Scan, Rng: api.Range{Open: true}} }
func plain(kind int) msg.Req  { return msg.Req{Kind: kind} }
func status(token, attempt int) msg.Req {
	return msg.Req{Kind: msg.Status, Token: token, Attempt: attempt}
}
func release(token int) msg.Req { return msg.Req{Kind: msg.Release, Token: token} }

// numbered are requests with numbers, from one on.
func numbered(from int, l ...msg.Req) []msg.Req {
	for i := range l {
		l[i].Seq = from + i
	}
	return l
}

// bytesOf are requests' frames.
func bytesOf(l ...msg.Req) []byte {
	var b []byte
	for _, r := range l {
		payload, e := msg.PutReq(r)
		if e != api.OK {
			panic(r)
		}
		b, _ = frame.Put(b, payload)
	}
	return b
}

// tell is a reply as a text.
func tell(r msg.Reply) string {
	out := strconv.Itoa(r.Kind) + "#" + strconv.Itoa(r.Seq)
	if r.Code != 0 {
		out += "!" + strconv.Itoa(int(r.Code))
	}
	if r.N != 0 {
		out += "=" + strconv.Itoa(r.N)
	}
	if r.Found {
		out += ":" + string(r.Val)
	}
	for _, x := range r.List {
		out += " " + string(x.Key) + "=" + string(x.Val)
	}
	return out
}

// rig is a server, and checks on it.
type rig struct {
	t *testing.T
	s Server
}

func newRig(t *testing.T, conns int) *rig {
	r := &rig{t: t, s: New(100)}
	for range conns {
		r.connect(0)
	}
	return r
}

func (r *rig) sane() {
	r.t.Helper()
	if !Sane(r.s) {
		r.t.Fatal("not sane", r.s)
	}
}

func (r *rig) connect(want api.Errno) int {
	r.t.Helper()
	s, id, e := Connect(r.s)
	if e != want {
		r.t.Fatal(e)
	}
	r.s = s
	r.sane()
	return id
}

// data hands bytes in, and holds what is told against texts of replies, and IDs of those that are closed.
func (r *rig) data(id int, b []byte, replies []string, gone ...int) {
	r.t.Helper()
	s, outs, closed, e := Data(r.s, id, b)
	if e != api.OK {
		r.t.Fatal(e)
	}
	r.s = s
	r.sane()
	var got []string
	for _, o := range outs {
		payload, _, e := frame.Read(o.Bytes, 0)
		q, e2 := msg.ReadReply(payload)
		if e != api.OK || e2 != api.OK || o.Conn != id || frame.Len(payload) != len(o.Bytes) {
			r.t.Fatal(o, e, e2)
		}
		got = append(got, tell(q))
	}
	if !slices.Equal(got, replies) || !slices.Equal(closed, gone) {
		r.t.Fatalf("%q, want %q; closed %v, want %v", got, replies, closed, gone)
	}
}

// do does a request, and holds its reply against a text.
func (r *rig) do(id int, q msg.Req, want string, gone ...int) {
	r.t.Helper()
	s, reply, closed := Do(r.s, id, q)
	r.s = s
	r.sane()
	if got := tell(reply); got != "0#0"+want || !slices.Equal(closed, gone) {
		r.t.Fatalf("%v: %s, want %s; closed %v", q, got, want, closed)
	}
}

// tx is a connection's transaction.
func (r *rig) tx(id int) int {
	for _, c := range r.s.Conns.L {
		if c.ID == id {
			return c.Tx
		}
	}
	return -9
}

func TestNewAndSane(t *testing.T) {
	for idle, want := range map[int]int{-5: 1, 0: 1, 1: 1, 77: 77, api.MaxTs: api.MaxTs, api.MaxTs + 1: api.MaxTs} {
		if s := New(idle); s.Idle != want || !Sane(s) || len(s.Conns.L) != 0 {
			t.Error(idle, s)
		}
	}
	r := newRig(t, 3)
	for k, change := range []func(s *Server){
		func(s *Server) { s.Conns.Next = 0 }, func(s *Server) { s.Eng.Next = -1 }, func(s *Server) { s.Timers.Now = -1 }, func(s *Server) { s.Idle = 0 }, func(s *Server) { s.Idle = api.MaxTs + 1 },
		func(s *Server) { s.Timers.L = s.Timers.L[:2] }, func(s *Server) { s.Conns.L = s.Conns.L[:2] }, func(s *Server) { s.Timers.L = slices.Clone(s.Timers.L); s.Timers.L[2].ID = 9 },
	} {
		s := r.s
		change(&s)
		if Sane(s) {
			t.Error(k)
		}
		a, id, e := Connect(s)
		b, outs, gone, e2 := Data(s, 0, nil)
		c, e3 := Drop(s, 0)
		d, due, e4 := Tick(s, 1)
		f, reply, closed := Do(s, 0, plain(msg.Bye))
		for _, x := range []Server{a, b, c, d, f} {
			if x.Idle != 0 || x.Conns.L != nil || x.Timers.L != nil || x.Conns.Next != 0 {
				t.Error(k, x)
			}
		}
		if e != api.ErrArg || e2 != e || e3 != e || e4 != e || id != 0 || outs != nil || gone != nil || due != nil || closed != nil || !msg.SameReply(reply, msg.Reply{}) {
			t.Error(k, e, e2, e3, e4)
		}
	}
}

func TestConnect(t *testing.T) {
	r := newRig(t, 8)
	was := r.s
	if id := r.connect(api.ErrBusy); id != 0 || len(r.s.Conns.L) != 8 || r.s.Conns.Next != was.Conns.Next {
		t.Error("changed")
	}
	if r.s.Timers.L[7].At != 100 || r.s.Conns.L[7].ID != 7 {
		t.Error(r.s.Timers)
	}
	r = newRig(t, 0)
	r.s.Conns.Next = api.MaxTs
	r.connect(api.ErrLimit)
	if r.s.Idle != 100 {
		t.Error("not as it is")
	}
}

func TestDropGivesUpWhatIsOpen(t *testing.T) {
	r := newRig(t, 2)
	r.do(0, greet(1, 1), "")
	r.do(0, start(5, 3), "")
	s, e := Drop(r.s, 0)
	if e != api.OK || len(s.Conns.L) != 1 || len(s.Timers.L) != 1 || len(s.Eng.Open) != 0 || !Sane(s) {
		t.Error(s, e)
	}
	if x, _ := tokens.Find(s.Eng.Toks, 5); x.State != tokens.Fenced || x.Attempt != 3 {
		t.Error(x)
	}
	if s, e := Drop(s, 0); e != api.ErrName || s.Idle != 0 || len(s.Conns.L) != 0 {
		t.Error(s, e)
	}
}

func TestTickClosesThoseThatAreIdle(t *testing.T) {
	r := newRig(t, 2)
	tick := func(n int, want api.Errno, due ...int) {
		t.Helper()
		s, gone, e := Tick(r.s, n)
		if e != want || !slices.Equal(gone, due) {
			t.Fatal(gone, e)
		}
		r.s = s
		r.sane()
	}
	tick(60, 0)
	r.data(0, bytesOf(numbered(0, greet(1, 1))...), []string{"1#0"})
	r.do(0, start(7, 1), "")
	r.data(1, []byte{1}, nil) // no payload came out
	third := r.connect(0)
	tick(39, 0)
	tick(1, 0, 1)
	tick(59, 0)
	tick(-1, api.ErrArg)
	tick(api.MaxTs, api.ErrLimit)
	if len(r.s.Conns.L) != 2 || len(r.s.Eng.Open) != 1 {
		t.Error("not as it is")
	}
	tick(500, 0, 0, third)
	if len(r.s.Conns.L) != 0 || len(r.s.Eng.Open) != 0 {
		t.Error(r.s)
	}
}

func TestFourRepliesOfOneLot(t *testing.T) {
	r := newRig(t, 1)
	r.data(0, bytesOf(numbered(0, greet(1, 1), start(7, 1), put("a", "x"), plain(msg.Commit))...), []string{"1#0", "2#1", "4#2", "7#3=1"})
	if l := store.Latest(r.s.Eng.Store); len(l) != 1 || string(l[0].Val) != "x" {
		t.Error(l)
	}
}

func TestDataInPieces(t *testing.T) {
	r := newRig(t, 1)
	b := bytesOf(numbered(0, greet(1, 1), start(7, 1))...)
	r.data(0, b[:5], nil)
	r.data(0, b[5:len(b)-1], []string{"1#0"})
	r.data(0, b[len(b)-1:], []string{"2#1"})
	if _, outs, gone, e := Data(r.s, 9, nil); e != api.ErrName || outs != nil || gone != nil {
		t.Error(e)
	}
	if s, _, _, _ := Data(r.s, 9, nil); len(s.Conns.L) != 1 {
		t.Error("not as it is")
	}
}

func TestRequestsThatComeAgainOrTurned(t *testing.T) {
	r := newRig(t, 1)
	l := numbered(0, greet(1, 1), start(7, 1), put("a", "x"), get("a"))
	r.data(0, bytesOf(l[3]), nil)
	r.data(0, bytesOf(l[1], l[3], l[1]), nil)
	r.data(0, bytesOf(l[0]), []string{"1#0", "2#1"})
	r.data(0, bytesOf(l[2]), []string{"4#2", "3#3:x"})
	r.data(0, bytesOf(l[3], l[0]), []string{"3#3:x", "1#0"})
	far := numbered(12, plain(msg.Abort))
	r.data(0, bytesOf(far...), []string{"8#12!8"})
	for i := range 8 {
		r.data(0, bytesOf(numbered(4+i, get("b"))...), []string{"3#" + strconv.Itoa(4+i)})
	}
	r.data(0, bytesOf(l[3]), nil) // long passed
	r.data(0, bytesOf(far...), []string{"8#12"})
}

func TestWhatIsNoRequestCloses(t *testing.T) {
	for k, bad := range [][]byte{nil, {0}, {99, 0, 0, 0, 0}, {7, 0, 0, 0, 0, 1}} {
		r := newRig(t, 2)
		r.data(0, bytesOf(numbered(0, greet(1, 1), start(7, 1))...), []string{"1#0", "2#1"})
		b, _ := frame.Put(bytesOf(numbered(2, put("a", "x"))...), bad)
		r.data(0, append(b, bytesOf(numbered(3, plain(msg.Commit))...)...), []string{"4#2"}, 0)
		if len(r.s.Conns.L) != 1 || len(r.s.Eng.Open) != 0 || r.s.Eng.Store.Ts != 0 {
			t.Error(k, r.s)
		}
	}
}

func TestBytesThatAreNoFrameClose(t *testing.T) {
	r := newRig(t, 2)
	good := bytesOf(numbered(0, greet(1, 1))...)
	bad := bytesOf(numbered(1, start(7, 1))...)
	bad[len(bad)-1] ^= 4
	r.data(0, append(slices.Clone(good), bad...), []string{"1#0"}, 0)
	r.data(1, append(good, 255, 255), []string{"1#0"}, 1)
	if len(r.s.Conns.L) != 0 {
		t.Error(r.s.Conns)
	}
	// One that is closed within the lot is closed once.
	id := r.connect(0)
	r.data(id, append(bytesOf(numbered(0, plain(msg.Bye))...), 255, 255), []string{"11#0"}, id)
}

func TestADeadStreamCloses(t *testing.T) {
	r := newRig(t, 1)
	r.s.Conns.L[0].Stream.Dead = api.ErrSum
	r.data(0, bytesOf(numbered(0, greet(1, 1))...), nil, 0)
}

func TestByeCloses(t *testing.T) {
	r := newRig(t, 1)
	r.data(0, bytesOf(numbered(0, greet(1, 1), start(7, 1), plain(msg.Bye), get("a"))...), []string{"1#0", "2#1", "11#2"}, 0)
	if len(r.s.Conns.L) != 0 || len(r.s.Eng.Open) != 0 {
		t.Error(r.s)
	}
}

func TestAPipeThatCanNotGoOnIsClosed(t *testing.T) {
	r := newRig(t, 1)
	c := &r.s.Conns.L[0]
	c.Pipe.Wait = []msg.Req{plain(msg.Abort)}
	c.Pipe.Win = seqs.Window{Base: 1, Bits: 1 << 63} // 64 was seen, and is not below Next + 64 yet
	if !Sane(r.s) {
		t.Fatal("may be")
	}
	r.data(0, bytesOf(numbered(1, plain(msg.Abort))...), nil, 0)
}

func TestDoHello(t *testing.T) {
	r := newRig(t, 3)
	r.do(99, greet(1, 1), "!6")
	r.do(0, greet(-1, 1), "!1")
	r.do(0, greet(1, 5), "")
	r.do(0, greet(1, 6), "!7")
	r.do(1, greet(1, 5), "!14")
	r.do(0, start(7, 1), "")
	r.do(1, greet(1, 6), "", 0)
	if len(r.s.Conns.L) != 2 || len(r.s.Timers.L) != 2 || len(r.s.Eng.Open) != 0 {
		t.Error(r.s)
	}
}

func TestDoOfNobodys(t *testing.T) {
	r := newRig(t, 1)
	for _, q := range []msg.Req{start(1, 1), get("a"), put("a", ""), del("a"), scan(), plain(msg.Commit), plain(msg.Abort), status(1, 1), release(1), plain(0), plain(12)} {
		r.do(0, q, "!7")
	}
	r.do(0, plain(msg.Bye), "")
	r.do(0, greet(1, 1), "")
	r.do(0, plain(0), "!1")
	r.do(0, plain(12), "!1")
	r.do(0, plain(-1), "!1")
	r.do(0, plain(msg.Bye), "")
}

func TestDoInsideATransaction(t *testing.T) {
	r := newRig(t, 1)
	r.do(0, greet(1, 1), "")
	for _, q := range []msg.Req{get("a"), put("a", ""), del("a"), scan(), plain(msg.Commit), plain(msg.Abort)} {
		r.do(0, q, "!7")
	}
	r.do(0, start(7, 1), "")
	r.do(0, start(8, 1), "!7")
	r.do(0, get("a"), "")
	r.do(0, get(""), "!1")
	r.do(0, put("a", "1"), "")
	r.do(0, put("b", "2"), "")
	r.do(0, get("a"), ":1")
	r.do(0, del("a"), "")
	r.do(0, get("a"), "")
	r.do(0, scan(), " b=2")
	r.do(0, msg.Req{Kind: msg.Scan}, "!1")
	r.do(0, plain(msg.Commit), "=1")
	if r.tx(0) != -1 {
		t.Error(r.tx(0))
	}
	r.do(0, msg.Req{Kind: msg.Begin, Token: 8, Attempt: 1, RO: true}, "=1")
	r.do(0, put("a", "1"), "!7")
	r.do(0, get("b"), ":2")
	r.do(0, plain(msg.Abort), "")
	r.do(0, plain(msg.Abort), "!7")
	r.do(0, status(7, 1), "=1")
	r.do(0, status(8, 1), "")
	r.do(0, start(8, 1), "!14")
	r.do(0, start(7, 2), "!7")
	r.do(0, release(7), "")
	r.do(0, release(7), "!6")
}

func TestDoScanTellsEightAtMost(t *testing.T) {
	r := newRig(t, 1)
	r.do(0, greet(1, 1), "")
	r.do(0, start(7, 1), "")
	want := ""
	for i := range 10 {
		k := string(rune('a' + i))
		r.do(0, put(k, k), "")
		if i < 8 {
			want += " " + k + "=" + k
		}
	}
	r.do(0, scan(), want)
}

func TestDoThatGivesUp(t *testing.T) {
	r := newRig(t, 1)
	r.do(0, greet(1, 1), "")
	r.do(0, start(7, 1), "")
	for i := range 16 {
		r.do(0, put("k"+strconv.Itoa(i), ""), "")
	}
	r.do(0, put("x", ""), "!8")
	if r.tx(0) != -1 || len(r.s.Eng.Open) != 0 {
		t.Error(r.tx(0))
	}
	r.do(0, start(7, 2), "")
	r.do(0, status(7, 2), "")
	if r.tx(0) != -1 {
		t.Error(r.tx(0))
	}
}

func TestOthersTxIsAsItIsUntilTheyAsk(t *testing.T) {
	r := newRig(t, 2)
	r.do(0, greet(1, 1), "")
	r.do(1, greet(2, 1), "")
	r.do(0, start(7, 1), "")
	r.do(1, start(7, 2), "") // gives the earlier attempt up
	if r.tx(0) != 0 || r.tx(1) != 1 || len(r.s.Eng.Open) != 1 {
		t.Error(r.tx(0), r.tx(1))
	}
	r.do(0, get("a"), "!7")
	if r.tx(0) != -1 {
		t.Error(r.tx(0))
	}
	r.do(0, start(8, 1), "")
	r.do(1, status(8, 1), "")
	r.do(0, start(9, 1), "") // the one that was given up does not stand in the way
	if r.tx(0) != 3 {
		t.Error(r.tx(0))
	}
}

func TestBeginThatMayNotBeGivesNothingUp(t *testing.T) {
	r := newRig(t, 2)
	r.do(0, greet(1, 1), "")
	r.do(1, greet(2, 1), "")
	r.do(0, start(7, 1), "")
	r.do(1, start(7, 65536), "!1")
	r.do(1, start(-7, 1), "!1")
	r.do(1, status(7, 65536), "!1")
	r.do(1, status(-7, 1), "!1")
	r.do(1, release(-7), "!1")
	if _, ok := txn.Find(r.s.Eng, 0); !ok {
		t.Error("given up")
	}
	// With an error behind, an earlier attempt is given up all the same.
	r.s.Eng.Next = api.MaxTs
	r.do(1, start(7, 2), "!11")
	if _, ok := txn.Find(r.s.Eng, 0); ok {
		t.Error("not given up")
	}
}

func TestTheServerMayBeWhateverComes(t *testing.T) {
	v := uint32(77)
	dice := func(n int) int {
		v = v*1664525 + 1013904223
		return int(v>>16) % n
	}
	key := func() []byte { return []byte{byte('a' + dice(4))} }
	done := 0
	for range 30 {
		r := newRig(t, 4)
		next := map[int]int{}
		for range 300 {
			id := dice(r.s.Conns.Next + 1)
			q := msg.Req{Kind: 1 + dice(11), Seq: next[id]}
			switch q.Kind {
			case msg.Hello, msg.Status:
				q.Token, q.Attempt = dice(5), dice(9)
			case msg.Begin:
				q.Token, q.Attempt, q.RO = dice(40), dice(5), dice(3) == 0
			case msg.Release:
				q.Token = dice(40)
			case msg.Get, msg.Del:
				q.Key = key()
			case msg.Put:
				q.Key, q.Val = key(), key()
			case msg.Scan:
				q.Rng = api.Range{Lo: key(), Open: true}
			case msg.Bye:
				q.Kind = msg.Commit
			}
			if dice(4) == 0 {
				q.Seq = max(0, q.Seq-3+dice(8))
			}
			b := bytesOf(q)
			if dice(200) == 0 {
				b[dice(len(b))] ^= 1 << dice(8)
			}
			s, outs, _, e := Data(r.s, id, b)
			if e == api.OK {
				r.s = s
			}
			next[id] += len(outs)
			done += len(outs)
			switch dice(40) {
			case 0:
				r.s, _, _ = Tick(r.s, dice(60))
			case 1:
				r.s, _, _ = Connect(r.s)
			}
			r.sane()
		}
	}
	if done < 1000 {
		t.Error(done)
	}
}
