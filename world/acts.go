package world

import (
	"sync"

	"godwit/api"
	"godwit/client"
	"godwit/frame"
	"godwit/net"
	"godwit/server"
)

// act does one thing, in a world of one's own.
func (w *World) act(a Act) {
	switch a.What {
	case submit:
		w.submit(a.A, a.Task)
	case connect:
		w.connect(a.A)
	case deliver:
		w.deliver(a.A)
	case drop:
		w.Net = net.Drop(w.Net, a.A)
	case double:
		if n, e := net.Dup(w.Net, a.A); e == api.OK {
			w.Net = n
		}
	case flip:
		w.Net = net.Flip(w.Net, a.A, a.B)
	case cut:
		if x, linked := net.Of(w.Net, a.A); linked && w.has(a.A) {
			w.cut(x)
		}
	case tick:
		w.tick(a.A)
	}
}

// has: is there a client?
func (w *World) has(i int) bool { return i >= 0 && i < len(w.Clients) }

// down lets a client lose its connection.
func (w *World) down(i int) {
	if w.has(i) {
		w.Clients[i] = client.Down(w.Clients[i])
	}
}

// away: has a client no connection?
func (w *World) away(i int) bool {
	p := w.Clients[i].Phase
	return p == client.Lost || p == client.Dead
}

// drop lets the server drop a connection, if it is there.
func (w *World) drop(conn int) {
	if s, e := server.Drop(w.Srv, conn); e == api.OK {
		w.Srv = s
	}
}

// cut cuts a connection.
func (w *World) cut(x net.Link) {
	w.Net = net.Cut(w.Net, x.ID)
	w.drop(x.Conn)
	w.down(x.Client)
}

// closed lets those lose their connections that the server has closed.
func (w *World) closed(conns []int) {
	for _, id := range conns {
		if x, linked := net.At(w.Net, id); linked {
			w.Net = net.Cut(w.Net, x.ID)
			w.down(x.Client)
		}
	}
}

// send lays bytes on a link; what there is no room for is gone.
func (w *World) send(link int, up bool, b []byte) {
	if n, e := net.Send(w.Net, link, up, b); e == api.OK {
		w.Net = n
	}
}

// empty empties a client.
func (w *World) empty(i int) {
	c, out := client.Drain(w.Clients[i])
	w.Clients[i] = c
	x, linked := net.Of(w.Net, i)
	if !linked {
		return
	}
	if w.away(i) {
		w.cut(x)
		return
	}
	payloads, _, _ := frame.All(out)
	for _, p := range payloads {
		if b, e := frame.Put(nil, p); e == api.OK {
			w.send(x.ID, true, b)
		}
	}
}

// submit hands a client a task.
func (w *World) submit(i int, t client.Task) {
	if !w.has(i) {
		return
	}
	if c, e := client.Submit(w.Clients[i], t); e == api.OK {
		w.Clients[i] = c
	}
	w.empty(i)
}

// connect gives a client a connection, if it has none.
func (w *World) connect(i int) {
	if !w.has(i) || w.Clients[i].Phase != client.Lost {
		return
	}
	srv, conn, e := server.Connect(w.Srv)
	if e != api.OK {
		return
	}
	w.Srv = srv
	n, _, e := net.Open(w.Net, i, conn)
	if e != api.OK {
		w.drop(conn)
		return
	}
	w.Net = n
	if c, e := client.Connected(w.Clients[i]); e == api.OK {
		w.Clients[i] = c
	}
	w.empty(i)
}

// deliver takes a packet, and hands it to whom it goes to, if its link is there.
func (w *World) deliver(k int) {
	n, p, taken := net.Take(w.Net, k)
	if !taken {
		return
	}
	w.Net = n
	for _, x := range n.Links {
		switch {
		case x.ID != p.Link:
		case p.Up:
			w.up(x, p.Bytes)
		default:
			w.toClient(x.Client, p.Bytes)
		}
	}
}

// up hands bytes to the server.
func (w *World) up(x net.Link, b []byte) {
	srv, outs, gone, e := server.Data(w.Srv, x.Conn, b)
	if e != api.OK {
		return
	}
	w.Srv = srv
	for _, o := range outs {
		if to, linked := net.At(w.Net, o.Conn); linked {
			w.send(to.ID, false, o.Bytes)
		}
	}
	w.closed(gone)
}

// toClient hands bytes to a client.
func (w *World) toClient(i int, b []byte) {
	if !w.has(i) {
		return
	}
	w.Clients[i] = client.Data(w.Clients[i], b)
	w.empty(i)
}

// tick lets time pass, for the server and for all clients.
func (w *World) tick(n int) {
	if srv, gone, e := server.Tick(w.Srv, n); e == api.OK {
		w.Srv = srv
		w.closed(gone)
	}
	var all sync.WaitGroup
	for i := range w.Clients {
		all.Add(1)
		go func() {
			defer all.Done()
			if c, e := client.Tick(w.Clients[i], n); e == api.OK {
				w.Clients[i] = c
			}
		}()
	}
	all.Wait()
	for i := range w.Clients {
		w.empty(i)
	}
}
