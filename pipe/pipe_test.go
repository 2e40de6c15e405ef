package pipe

import (
	"slices"
	"testing"

	"godwit/api"
	"godwit/msg"
	"godwit/seqs"
)

// req is a request with a number.
func req(seq int) msg.Req { return msg.Req{Kind: msg.Get, Seq: seq, Key: []byte("k")} }

// past is a reply with a number.
func past(seq int) msg.Reply { return msg.Reply{Kind: msg.Get, Seq: seq, N: seq} }

// same: are two the same?
func same(a, b Pipe) bool {
	return a.Win == b.Win && a.Next == b.Next && slices.EqualFunc(a.Wait, b.Wait, msg.SameReq) && slices.EqualFunc(a.Past, b.Past, msg.SameReply)
}

// of is a pipe that has answered all below next, of which some wait.
func of(next int, wait ...int) Pipe {
	p := Pipe{Next: next, Win: seqs.Window{Base: next}}
	for i := max(0, next-api.MaxPipe); i < next; i++ {
		p.Past = append(p.Past, past(i))
	}
	for _, seq := range wait {
		p.Win, _ = seqs.Accept(p.Win, seq)
		p.Wait = append(p.Wait, req(seq))
	}
	return p
}

func TestSane(t *testing.T) {
	end := api.MaxSeq + 1
	for k, p := range []Pipe{{}, of(0, 0), of(5, 5, 7, 12), of(100), of(100, 100, 101, 102, 103, 104, 105, 106, 107), of(end), of(end-1, end-1), {Next: 9, Win: seqs.Window{Base: 9}, Past: []msg.Reply{past(8)}}} {
		if !Sane(p) {
			t.Error("may be", k, p)
		}
	}
	change := func(f func(p *Pipe)) Pipe {
		p := of(20, 20, 22)
		f(&p)
		return p
	}
	for k, p := range []Pipe{
		{Next: -1}, {Next: end + 1, Win: seqs.Window{Base: end}}, {Win: seqs.Window{Bits: 1}},
		change(func(p *Pipe) { p.Wait = p.Wait[1:] }), change(func(p *Pipe) { p.Wait = append(p.Wait, req(23)) }), change(func(p *Pipe) { p.Wait[0], p.Wait[1] = p.Wait[1], p.Wait[0] }), change(func(p *Pipe) { p.Wait[1] = p.Wait[0] }), change(func(p *Pipe) { p.Wait[0].Key = nil }),
		change(func(p *Pipe) { p.Win, _ = seqs.Accept(p.Win, 28); p.Wait = append(p.Wait, req(28)) }), change(func(p *Pipe) { p.Win, _ = seqs.Accept(p.Win, 83) }), change(func(p *Pipe) { p.Win = seqs.Window{Base: 19} }), change(func(p *Pipe) { p.Win = seqs.Window{Base: 29} }),
		change(func(p *Pipe) { p.Past = p.Past[:7] }), change(func(p *Pipe) { p.Past = append([]msg.Reply{past(11)}, p.Past...) }), change(func(p *Pipe) { p.Past[3].Code = -1 }), change(func(p *Pipe) { p.Past[3], p.Past[4] = p.Past[4], p.Past[3] }),
		change(func(p *Pipe) { p.Wait = append(p.Wait, req(22)) }), change(func(p *Pipe) { p.Win = seqs.Window{Base: 19, Bits: 2 + 8} }), change(func(p *Pipe) { p.Win.Bits |= 1 << 62 }),
		{Wait: []msg.Req{req(-1)}}, {Past: []msg.Reply{past(-1)}},
	} {
		if Sane(p) {
			t.Error("may not be", k, p)
		}
	}
	if !Sane(change(func(p *Pipe) { p.Win.Bits |= 1 << 63 })) {
		t.Error("84 is not below 20 and 64 more")
	}
	if !Sane(change(func(p *Pipe) { p.Past = p.Past[5:] })) {
		t.Error("fewer of Past")
	}
}

func TestOffer(t *testing.T) {
	p := of(20, 20, 22)
	for k, x := range []struct {
		p    Pipe
		r    msg.Req
		want Pipe
		told msg.Reply
		past bool
		e    api.Errno
	}{
		{Pipe{Next: -1}, req(1), Pipe{}, msg.Reply{}, false, api.ErrArg}, {p, msg.Req{}, Pipe{}, msg.Reply{}, false, api.ErrArg}, {p, req(-1), Pipe{}, msg.Reply{}, false, api.ErrArg},
		{p, req(19), p, past(19), true, 0}, {p, req(12), p, past(12), true, 0}, {p, req(11), Pipe{}, msg.Reply{}, false, api.ErrState}, {p, req(0), Pipe{}, msg.Reply{}, false, api.ErrState},
		{p, req(20), p, msg.Reply{}, false, 0}, {p, req(22), p, msg.Reply{}, false, 0}, {p, req(28), Pipe{}, msg.Reply{}, false, api.ErrBusy}, {p, req(api.MaxSeq), Pipe{}, msg.Reply{}, false, api.ErrBusy},
		{p, req(21), of(20, 20, 21, 22), msg.Reply{}, false, 0}, {p, req(27), of(20, 20, 22, 27), msg.Reply{}, false, 0}, {of(20, 22), req(20), p, msg.Reply{}, false, 0},
		{p, msg.Req{Kind: msg.Bye, Seq: 19}, p, past(19), true, 0},
		{of(api.MaxSeq), req(api.MaxSeq), of(api.MaxSeq, api.MaxSeq), msg.Reply{}, false, 0}, {of(api.MaxSeq + 1), req(api.MaxSeq), of(api.MaxSeq + 1), past(api.MaxSeq), true, 0},
	} {
		got, told, again, e := Offer(x.p, x.r)
		if !same(got, x.want) || !msg.SameReply(told, x.told) || again != x.past || e != x.e || e == api.OK && !Sane(got) {
			t.Error(k, got, told, again, e)
		}
	}
	if !same(p, of(20, 20, 22)) {
		t.Error("changed")
	}
}

func TestReady(t *testing.T) {
	if r, ok := Ready(of(20, 20, 22)); !ok || !msg.SameReq(r, req(20)) {
		t.Error(r, ok)
	}
	bad := of(20, 20, 22)
	bad.Past[0].Seq = 0
	for k, p := range []Pipe{{}, of(20, 21), of(api.MaxSeq + 1), bad} {
		if r, ok := Ready(p); ok || !msg.SameReq(r, msg.Req{}) {
			t.Error(k, r, ok)
		}
	}
}

func TestAnswer(t *testing.T) {
	for k, x := range []struct {
		p, want Pipe
		n       int
	}{
		{of(20, 20, 22), of(21, 22), 20}, {of(0, 0), of(1), 0}, {of(7, 7, 8), of(8, 8), 7}, {of(8, 8), of(9), 8}, {of(api.MaxSeq, api.MaxSeq), of(api.MaxSeq + 1), api.MaxSeq},
	} {
		p := x.p
		got, told, e := Answer(p, msg.Reply{Kind: 99, Seq: -5, N: x.n})
		if e != api.OK || !same(got, x.want) || !msg.SameReply(told, past(x.n)) || !Sane(got) {
			t.Error(k, got, told, e)
		}
	}
	bad := of(20, 20)
	bad.Past[0].Seq = 0
	for k, x := range []struct {
		p Pipe
		r msg.Reply
		e api.Errno
	}{{bad, msg.Reply{}, api.ErrArg}, {of(20, 21), msg.Reply{N: -1}, api.ErrState}, {Pipe{}, msg.Reply{}, api.ErrState}, {of(20, 20), msg.Reply{N: -1}, api.ErrArg}, {of(20, 20), msg.Reply{Val: []byte("v")}, api.ErrArg}} {
		if got, told, e := Answer(x.p, x.r); e != x.e || !same(got, Pipe{}) || !msg.SameReply(told, msg.Reply{}) {
			t.Error(k, got, told, e)
		}
	}
}

func TestAnswerLeavesItsInputAlone(t *testing.T) {
	p := of(20, 20, 21)
	a, _, _ := Answer(p, msg.Reply{N: 1})
	b, _, _ := Answer(p, msg.Reply{N: 2})
	if a.Past[7].N != 1 || b.Past[7].N != 2 || !same(p, of(20, 20, 21)) {
		t.Error("shared")
	}
}

func TestEachRequestIsAnsweredOnceInOrder(t *testing.T) {
	v := uint32(5)
	dice := func(n int) int {
		v = v*1664525 + 1013904223
		return int(v>>16) % n
	}
	p := Pipe{}
	told := map[int]int{}
	answers := 0
	for range 20000 {
		seq := max(0, p.Next-10+dice(22))
		next, old, again, e := Offer(p, req(seq))
		if e == api.OK {
			p = next
		}
		if n, was := told[seq]; again && (!was || n != old.N) || was && !again && e != api.ErrState {
			t.Fatal(seq, again, e)
		}
		for dice(3) > 0 {
			q, ok := Ready(p)
			if !ok {
				break
			}
			if _, was := told[q.Seq]; was || q.Seq != len(told) {
				t.Fatal("twice, or out of order", q)
			}
			answers++
			p, _, _ = Answer(p, msg.Reply{N: answers})
			told[q.Seq] = answers
		}
		if !Sane(p) {
			t.Fatal(p)
		}
	}
	if answers < 1000 {
		t.Error(answers)
	}
}
