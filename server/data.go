package server

import (
	"godwit/api"
	"godwit/conns"
	"godwit/frame"
	"godwit/msg"
	"godwit/pipe"
	"godwit/stream"
	"godwit/timers"
)

// feed is one lot of bytes of a connection, while it is gone through.
type feed struct {
	srv  Server
	id   int
	outs []Out
	gone []int
}

// conn is the connection, and whether it is there.
func (f *feed) conn() (conns.Conn, bool) { return conns.Find(f.srv.Conns, f.id) }

// set puts the connection in its place; false, if it may not be so.
func (f *feed) set(c conns.Conn) bool {
	table, e := conns.Set(f.srv.Conns, c)
	if e != api.OK {
		return false
	}
	f.srv.Conns = table
	return true
}

// shut closes the connection, if it is there.
func (f *feed) shut() {
	if c, there := f.conn(); there {
		f.srv = shut(f.srv, c)
		f.gone = append(f.gone, f.id)
	}
}

// give gives a reply, as bytes in a frame.
func (f *feed) give(r msg.Reply) {
	payload, e := msg.PutReply(r)
	if e != api.OK {
		return
	}
	if b, e := frame.Put(nil, payload); e == api.OK {
		f.outs = append(f.outs, Out{Conn: f.id, Bytes: b})
	}
}

// take takes a payload.
func (f *feed) take(payload []byte) {
	r, e := msg.ReadReq(payload)
	if e != api.OK {
		f.shut()
		return
	}
	// Whatever becomes of this one, others may wait that are ready.
	defer f.ready()
	c, there := f.conn()
	if !there {
		return
	}
	p, told, again, e := pipe.Offer(c.Pipe, r)
	switch {
	case e == api.ErrBusy:
		f.give(msg.Reply{Kind: r.Kind, Seq: r.Seq, Code: e})
	case e != api.OK:
		return
	case again:
		f.give(told)
	default:
		c.Pipe = p
		f.set(c)
	}
}

// ready does what is ready, as long as the connection is there.
func (f *feed) ready() {
	for {
		c, _ := f.conn()
		r, ok := pipe.Ready(c.Pipe)
		if !ok || !f.answer(r) {
			return
		}
	}
}

// answer does what is ready, and gives the reply; false, if there is nothing more to do.
func (f *feed) answer(r msg.Req) bool {
	srv, reply, gone := do(f.srv, f.id, r)
	f.srv, f.gone = srv, append(f.gone, gone...)
	c, _ := f.conn()
	p, told, e := pipe.Answer(c.Pipe, reply)
	c.Pipe = p
	if e != api.OK || !f.set(c) {
		// It would be ready again and again.
		f.shut()
		return false
	}
	f.give(told)
	if r.Kind == msg.Bye {
		f.shut()
		return false
	}
	return true
}

// rest lets the connection be idle from now on.
func (f *feed) rest() {
	if _, there := f.conn(); !there {
		return
	}
	if t, e := timers.Set(f.srv.Timers, f.id, f.srv.Idle); e == api.OK {
		f.srv.Timers = t
	}
}

// Data takes a connection's bytes; what is given, and who is closed.
func Data(s Server, id int, b []byte) (Server, []Out, []int, api.Errno) {
	if !Sane(s) {
		return Server{}, nil, nil, api.ErrArg
	}
	f := &feed{srv: s, id: id}
	c, there := f.conn()
	if !there {
		return s, nil, nil, api.ErrName
	}
	str, payloads, e := stream.Feed(c.Stream, b)
	c.Stream = str
	f.set(c)
	for _, payload := range payloads {
		if _, there := f.conn(); there {
			f.take(payload)
		}
	}
	if e != api.OK {
		f.shut()
	}
	if len(payloads) > 0 {
		f.rest()
	}
	return f.srv, f.outs, f.gone, api.OK
}
