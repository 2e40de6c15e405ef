package msg

import (
	"bytes"
	"testing"

	"godwit/api"
)

// some is n bytes.
func some(n int) []byte { return bytes.Repeat([]byte{'k'}, n) }

// goodReqs are requests that may be, with the bytes that they are.
func goodReqs() []struct {
	r Req
	b []byte
} {
	return []struct {
		r Req
		b []byte
	}{
		{Req{Kind: Hello, Seq: 1, Token: 0x0102, Attempt: 0x0304}, []byte{1, 1, 0, 0, 0, 2, 1, 0, 0, 0, 0, 0, 0, 4, 3}},
		{Req{Kind: Begin, Seq: 0x01020304, Token: 5, Attempt: 6, RO: true}, []byte{2, 4, 3, 2, 1, 5, 0, 0, 0, 0, 0, 0, 0, 6, 0, 1}},
		{Req{Kind: Begin, Token: 5, Attempt: 6}, []byte{2, 0, 0, 0, 0, 5, 0, 0, 0, 0, 0, 0, 0, 6, 0, 0}},
		{Req{Kind: Get, Seq: 2, Key: []byte("ab")}, []byte{3, 2, 0, 0, 0, 2, 0, 'a', 'b'}},
		{Req{Kind: Put, Seq: 2, Key: []byte("a"), Val: []byte("xyz")}, []byte{4, 2, 0, 0, 0, 1, 0, 'a', 3, 0, 'x', 'y', 'z'}},
		{Req{Kind: Put, Key: some(16), Val: some(32)}, append(append([]byte{4, 0, 0, 0, 0, 16, 0}, some(16)...), append([]byte{32, 0}, some(32)...)...)},
		{Req{Kind: Del, Key: []byte("a")}, []byte{5, 0, 0, 0, 0, 1, 0, 'a'}},
		{Req{Kind: Scan, Rng: api.Range{Lo: []byte("a"), Hi: []byte("bc")}}, []byte{6, 0, 0, 0, 0, 1, 0, 'a', 0, 2, 0, 'b', 'c'}},
		{Req{Kind: Scan, Rng: api.Range{Lo: []byte("a"), Open: true}}, []byte{6, 0, 0, 0, 0, 1, 0, 'a', 1, 0, 0}},
		{Req{Kind: Scan, Rng: api.Range{Lo: some(16), Hi: some(16)}}, append(append([]byte{6, 0, 0, 0, 0, 16, 0}, some(16)...), append([]byte{0, 16, 0}, some(16)...)...)},
		{Req{Kind: Commit, Seq: 7}, []byte{7, 7, 0, 0, 0}},
		{Req{Kind: Abort, Seq: api.MaxSeq}, []byte{8, 255, 255, 255, 255}},
		{Req{Kind: Status, Token: api.MaxTs, Attempt: 65535}, []byte{9, 0, 0, 0, 0, 0, 0, 0, 0, 0, 1, 0, 0, 255, 255}},
		{Req{Kind: Release, Token: 9}, []byte{10, 0, 0, 0, 0, 9, 0, 0, 0, 0, 0, 0, 0}},
		{Req{Kind: Bye}, []byte{11, 0, 0, 0, 0}},
	}
}

func TestRequestsAsBytes(t *testing.T) {
	for k, x := range goodReqs() {
		b, e := PutReq(x.r)
		if !SaneReq(x.r) || e != api.OK || !bytes.Equal(b, x.b) || len(b) > api.MaxFrame {
			t.Error(k, b, e)
		}
		if r, e := ReadReq(x.b); e != api.OK || !SameReq(r, x.r) {
			t.Error(k, r, e)
		}
	}
}

func TestRequestsThatMayNotBe(t *testing.T) {
	key := []byte("a")
	bad := []Req{
		{}, {Kind: -1}, {Kind: 12}, {Kind: 1 << 40},
		{Kind: Commit, Seq: -1}, {Kind: Commit, Seq: api.MaxSeq + 1},
		{Kind: Hello, Token: -1}, {Kind: Hello, Token: api.MaxTs + 1}, {Kind: Status, Attempt: -1}, {Kind: Status, Attempt: 65536},
		{Kind: Get}, {Kind: Get, Key: some(17)}, {Kind: Put, Key: nil, Val: key}, {Kind: Put, Key: key, Val: some(33)},
		{Kind: Scan, Rng: api.Range{Lo: some(17)}}, {Kind: Scan, Rng: api.Range{Hi: some(17)}}, {Kind: Scan, Rng: api.Range{Hi: key, Open: true}},
	}
	for _, x := range goodReqs() {
		p := partsOf(x.r.Kind)
		with := func(has bool, change func(r *Req)) {
			if !has {
				r := x.r
				change(&r)
				bad = append(bad, r)
			}
		}
		with(p.token, func(r *Req) { r.Token = 1 })
		with(p.attempt, func(r *Req) { r.Attempt = 1 })
		with(p.ro, func(r *Req) { r.RO = true })
		with(p.key, func(r *Req) { r.Key = key })
		with(p.val, func(r *Req) { r.Val = key })
		with(p.rng, func(r *Req) { r.Rng.Lo = key })
		with(p.rng, func(r *Req) { r.Rng.Hi = key })
		with(p.rng, func(r *Req) { r.Rng.Open = true })
	}
	for k, r := range bad {
		if b, e := PutReq(r); SaneReq(r) || e != api.ErrArg || b != nil {
			t.Error(k, r, e)
		}
	}
}

func TestReadReqTellsTheFirstError(t *testing.T) {
	for k, x := range []struct {
		b []byte
		e api.Errno
	}{
		{nil, api.ErrShort}, {[]byte{7}, api.ErrShort}, {[]byte{7, 0, 0, 0}, api.ErrShort},
		{[]byte{0}, api.ErrShort}, {[]byte{99, 0, 0, 0}, api.ErrShort}, {[]byte{0, 0, 0, 0, 0}, api.ErrForm}, {[]byte{12, 0, 0, 0, 0}, api.ErrForm},
		{[]byte{7, 0, 0, 0, 0, 0}, api.ErrForm},
		{[]byte{1, 0, 0, 0, 0, 1}, api.ErrShort},
		{[]byte{10, 0, 0, 0, 0, 1, 0, 0, 0, 0, 1, 0, 0}, api.ErrForm}, // a Token above 2^40
		{[]byte{10, 0, 0, 0, 0, 0, 0, 0, 0, 0, 0, 0, 255}, api.ErrForm},
		{[]byte{2, 0, 0, 0, 0, 5, 0, 0, 0, 0, 0, 0, 0, 6, 0, 2}, api.ErrForm},
		{[]byte{3, 0, 0, 0, 0, 0, 0}, api.ErrForm},  // an empty Key
		{[]byte{3, 0, 0, 0, 0, 17, 0}, api.ErrSize}, // too long a Key
		{[]byte{3, 0, 0, 0, 0, 2, 0, 'a'}, api.ErrShort},
		{[]byte{4, 0, 0, 0, 0, 1, 0, 'a', 33, 0}, api.ErrSize},
		{[]byte{4, 0, 0, 0, 0, 0, 0, 33, 0}, api.ErrSize},
		{[]byte{6, 0, 0, 0, 0, 17, 0}, api.ErrSize},
		{[]byte{6, 0, 0, 0, 0, 0, 0, 2, 17, 0}, api.ErrForm},
		{[]byte{6, 0, 0, 0, 0, 0, 0, 0, 17, 0}, api.ErrSize},
		{[]byte{6, 0, 0, 0, 0, 0, 0, 1, 1, 0, 'a'}, api.ErrForm}, // Open, with a Hi
	} {
		if r, e := ReadReq(x.b); e != x.e || !SameReq(r, Req{}) {
			t.Error(k, r, e)
		}
	}
}

// fullReply is a reply of the greatest length.
func fullReply() Reply {
	r := Reply{Kind: Scan, Seq: api.MaxSeq, Code: 255, N: api.MaxTs, Found: true, Val: some(32)}
	for range 8 {
		r.List = append(r.List, api.KV{Key: some(16), Val: some(32)})
	}
	return r
}

func TestRepliesAsBytes(t *testing.T) {
	for k, x := range []struct {
		r Reply
		b []byte
	}{
		{Reply{}, make([]byte, 18)},
		{Reply{Kind: Get, Seq: 2, Code: 3, N: 4, Found: true, Val: []byte("v")}, []byte{3, 2, 0, 0, 0, 3, 4, 0, 0, 0, 0, 0, 0, 0, 1, 1, 0, 'v', 0}},
		{Reply{Kind: Bye, List: []api.KV{{Key: []byte("a")}, {Key: []byte("b"), Val: []byte("w")}}}, []byte{11, 0, 0, 0, 0, 0, 0, 0, 0, 0, 0, 0, 0, 0, 0, 0, 0, 2, 1, 0, 'a', 0, 0, 1, 0, 'b', 1, 0, 'w'}},
	} {
		b, e := PutReply(x.r)
		if !SaneReply(x.r) || e != api.OK || !bytes.Equal(b, x.b) {
			t.Error(k, b, e)
		}
		if r, e := ReadReply(x.b); e != api.OK || !SameReply(r, x.r) {
			t.Error(k, r, e)
		}
	}
	b, e := PutReply(fullReply())
	if r, e2 := ReadReply(b); e != api.OK || e2 != api.OK || !SameReply(r, fullReply()) || len(b) > api.MaxFrame {
		t.Error(e, e2, len(b))
	}
}

func TestRepliesThatMayNotBe(t *testing.T) {
	nine := append(fullReply().List, api.KV{Key: some(1)})
	for k, r := range []Reply{
		{Kind: -1}, {Kind: 12}, {Seq: -1}, {Seq: api.MaxSeq + 1}, {Code: -1}, {Code: 256}, {N: -1}, {N: api.MaxTs + 1},
		{Val: some(1)}, {Found: true, Val: some(33)}, {List: nine},
		{List: []api.KV{{}}}, {List: []api.KV{{Key: some(17)}}}, {List: []api.KV{{Key: some(1), Val: some(33)}}},
	} {
		if b, e := PutReply(r); SaneReply(r) || e != api.ErrArg || b != nil {
			t.Error(k, e)
		}
	}
}

func TestReadReplyTellsTheFirstError(t *testing.T) {
	head := []byte{3, 0, 0, 0, 0, 0, 0, 0, 0, 0, 0, 0, 0, 0}
	for k, x := range []struct {
		b []byte
		e api.Errno
	}{
		{nil, api.ErrShort}, {head[:5], api.ErrShort}, {head, api.ErrShort}, {[]byte{12, 0, 0, 0, 0}, api.ErrForm}, {[]byte{12, 0, 0, 0}, api.ErrShort},
		{append(bytes.Clone(head), 2, 33, 0), api.ErrForm},
		{append(bytes.Clone(head), 1, 33, 0), api.ErrSize},
		{append(bytes.Clone(head), 0, 1, 0, 'v', 0), api.ErrForm},
		{append(bytes.Clone(head), 0, 0, 0, 9), api.ErrSize},
		{append(bytes.Clone(head), 0, 0, 0, 0, 0), api.ErrForm},
		{append(bytes.Clone(head), 0, 0, 0, 1, 0, 0, 0, 0), api.ErrForm},
		{append(bytes.Clone(head), 0, 0, 0, 1, 17, 0), api.ErrSize},
		{append(bytes.Clone(head), 0, 0, 0, 1, 1, 0, 'a', 33, 0), api.ErrSize},
		{append(bytes.Clone(head), 0, 0, 0, 1, 1, 0, 'a'), api.ErrShort},
		{[]byte{3, 0, 0, 0, 0, 0, 1, 0, 0, 0, 0, 1, 0, 0, 0, 0, 0, 0}, api.ErrForm}, // N above 2^40
		{[]byte{3, 0, 0, 0, 0, 0, 1, 0, 0, 0, 0, 0, 0, 128, 0, 0, 0, 0}, api.ErrForm},
	} {
		if r, e := ReadReply(x.b); e != x.e || !SameReply(r, Reply{}) {
			t.Error(k, r, e)
		}
	}
}

func TestSame(t *testing.T) {
	q := Req{Kind: 1, Seq: 2, Token: 3, Attempt: 4, RO: true, Key: some(1), Val: some(2), Rng: api.Range{Lo: some(3), Hi: some(4), Open: true}}
	for k, change := range []func(r *Req){
		func(r *Req) { r.Kind = 9 }, func(r *Req) { r.Seq = 9 }, func(r *Req) { r.Token = 9 }, func(r *Req) { r.Attempt = 9 }, func(r *Req) { r.RO = false },
		func(r *Req) { r.Key = nil }, func(r *Req) { r.Val = some(3) }, func(r *Req) { r.Rng.Lo = nil }, func(r *Req) { r.Rng.Hi = nil }, func(r *Req) { r.Rng.Open = false },
	} {
		r := q
		change(&r)
		if SameReq(q, r) || SameReq(r, q) || !SameReq(r, r) {
			t.Error("req", k)
		}
	}
	p := fullReply()
	for k, change := range []func(r *Reply){
		func(r *Reply) { r.Kind = 9 }, func(r *Reply) { r.Seq = 9 }, func(r *Reply) { r.Code = 9 }, func(r *Reply) { r.N = 9 }, func(r *Reply) { r.Found = false },
		func(r *Reply) { r.Val = nil }, func(r *Reply) { r.List = nil }, func(r *Reply) { r.List = r.List[:7] },
		func(r *Reply) { r.List = fullReply().List; r.List[7].Key = some(1) }, func(r *Reply) { r.List = fullReply().List; r.List[0].Val = nil },
	} {
		r := p
		change(&r)
		if SameReply(p, r) || SameReply(r, p) || !SameReply(r, r) {
			t.Error("reply", k)
		}
	}
	if !SameReq(Req{Key: nil}, Req{Key: []byte{}}) || !SameReply(Reply{List: nil}, Reply{List: []api.KV{}}) {
		t.Error("nothing is nothing")
	}
}

func TestAnyBytesAreReadAlike(t *testing.T) {
	v := uint32(1)
	for n := range 20000 {
		b := make([]byte, n%40)
		for i := range b {
			v = v*1664525 + 1013904223
			b[i] = byte(v>>24) % 14
		}
		if r, e := ReadReq(b); e == api.OK {
			if c, _ := PutReq(r); !bytes.Equal(b, c) {
				t.Fatal(b, c)
			}
		}
		if r, e := ReadReply(b); e == api.OK {
			if c, _ := PutReply(r); !bytes.Equal(b, c) {
				t.Fatal(b, c)
			}
		}
	}
}
