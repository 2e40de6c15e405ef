package server

import (
	"godwit/api"
	"godwit/conns"
	"godwit/msg"
	"godwit/txn"
)

// Do does a request; who is closed.
func Do(s Server, id int, r msg.Req) (Server, msg.Reply, []int) {
	if !Sane(s) {
		return Server{}, msg.Reply{}, nil
	}
	return do(s, id, r)
}

// do is Do of a server that may be.
func do(s Server, id int, r msg.Req) (Server, msg.Reply, []int) {
	if _, there := conns.Find(s.Conns, id); !there {
		return s, msg.Reply{Code: api.ErrName}, nil
	}
	s = settle(s, id)
	var gone []int
	var reply msg.Reply
	if r.Kind == msg.Hello {
		s, reply, gone = hello(s, id, r)
	} else {
		s, reply = act(s, id, r)
	}
	return settle(s, id), reply, gone
}

// setTx gives a connection another transaction.
func setTx(s Server, id, tx int) (Server, api.Errno) {
	c, _ := conns.Find(s.Conns, id)
	c.Tx = tx
	table, e := conns.Set(s.Conns, c)
	if e != api.OK {
		return s, e
	}
	s.Conns = table
	return s, api.OK
}

// settle takes a connection's transaction from it, if it is not open any more.
func settle(s Server, id int) Server {
	c, _ := conns.Find(s.Conns, id)
	if c.Tx == noTx {
		return s
	}
	if _, open := txn.Find(s.Eng, c.Tx); open {
		return s
	}
	s, _ = setTx(s, id, noTx)
	return s
}

// hello says whose a connection is, and closes those that are gone by that.
func hello(s Server, id int, r msg.Req) (Server, msg.Reply, []int) {
	table, l, e := conns.Hello(s.Conns, id, r.Token, r.Attempt)
	if e != api.OK {
		return s, msg.Reply{Code: e}, nil
	}
	s.Conns = table
	var gone []int
	for _, c := range l {
		s = shut(s, c)
		gone = append(gone, c.ID)
	}
	return s, msg.Reply{}, gone
}

// act does a request that is no Hello.
func act(s Server, id int, r msg.Req) (Server, msg.Reply) {
	c, _ := conns.Find(s.Conns, id)
	switch {
	case r.Kind == msg.Bye:
		return s, msg.Reply{}
	case c.Who == nobody:
		return s, msg.Reply{Code: api.ErrState}
	}
	switch r.Kind {
	case msg.Begin:
		return begin(s, c, r)
	case msg.Status, msg.Release:
		return ask(s, r)
	case msg.Get, msg.Put, msg.Del, msg.Scan, msg.Commit, msg.Abort:
		if c.Tx == noTx {
			return s, msg.Reply{Code: api.ErrState}
		}
		return inside(s, c.Tx, r)
	}
	return s, msg.Reply{Code: api.ErrArg}
}

// begin begins a transaction on a connection.
func begin(s Server, c conns.Conn, r msg.Req) (Server, msg.Reply) {
	if c.Tx != noTx {
		return s, msg.Reply{Code: api.ErrState}
	}
	eng, tx, e := txn.Begin(s.Eng, r.Token, r.Attempt, r.RO)
	named := msg.SaneReq(msg.Req{Kind: msg.Begin, Token: r.Token, Attempt: r.Attempt})
	if e != api.OK {
		if named { // also with an error an earlier attempt may have been given up
			s.Eng = eng
		}
		return s, msg.Reply{Code: e}
	}
	next, e := setTx(s, c.ID, tx)
	if e != api.OK {
		return s, msg.Reply{Code: e}
	}
	next.Eng = eng
	o, _ := txn.Find(eng, tx)
	return next, msg.Reply{N: o.Snap}
}

// ask does what is asked of a token.
func ask(s Server, r msg.Req) (Server, msg.Reply) {
	var eng txn.Engine
	var e api.Errno
	n := 0
	if r.Kind == msg.Status {
		eng, n, e = txn.Status(s.Eng, r.Token, r.Attempt)
	} else {
		eng, e = txn.Release(s.Eng, r.Token)
	}
	if e == api.OK {
		s.Eng = eng
	}
	return s, msg.Reply{Code: e, N: n}
}

// inside does what is asked of a transaction that is open.
func inside(s Server, tx int, r msg.Req) (Server, msg.Reply) {
	var q msg.Reply
	switch r.Kind {
	case msg.Get:
		s.Eng, q.Val, q.Found, q.Code = txn.Get(s.Eng, tx, r.Key)
	case msg.Scan:
		s.Eng, q.List, q.Code = txn.Scan(s.Eng, tx, r.Rng, api.MaxList)
	case msg.Put:
		s.Eng, q.Code = txn.Put(s.Eng, tx, api.Write{Key: r.Key, Val: r.Val})
	case msg.Del:
		s.Eng, q.Code = txn.Put(s.Eng, tx, api.Write{Key: r.Key, Del: true})
	case msg.Commit:
		s.Eng, q.N, q.Code = txn.Commit(s.Eng, tx)
	case msg.Abort:
		s.Eng, q.Code = txn.Abort(s.Eng, tx)
	}
	return s, q
}
