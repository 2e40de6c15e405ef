package prog

import (
	"godwit/api"
	"godwit/buffer"
	"godwit/keys"
	"godwit/msg"
)

// alone is what there is, while a program runs over it without others.
type alone struct {
	base []api.KV
	buf  buffer.Buf
}

// rises: do the keys of what there is rise?
func rises(base []api.KV) bool {
	var l [][]byte
	for _, x := range base {
		l = append(l, x.Key)
	}
	return keys.Sorted(l)
}

// look are the first most of a range.
func (a alone) look(r api.Range, most int) []api.KV {
	return buffer.Over(a.buf, a.base, r, most)
}

// all is all that there is.
func (a alone) all() []api.KV {
	return a.look(api.Range{Open: true}, len(a.base)+len(a.buf.L))
}

// answer does what is asked.
func (a alone) answer(q msg.Req) (alone, msg.Reply, api.Errno) {
	e := api.OK
	r := msg.Reply{}
	switch q.Kind {
	case msg.Get:
		if l := a.look(keys.One(q.Key), 1); len(l) > 0 {
			r.Found, r.Val = true, l[0].Val
		}
	case msg.Scan:
		r.List = a.look(q.Rng, api.MaxList)
	case msg.Put, msg.Del:
		a.buf, e = buffer.Set(a.buf, api.Write{Key: q.Key, Val: q.Val, Del: q.Kind == msg.Del})
	}
	return a, r, e
}

// Run is all of a program, alone; what there is at last, and the state at the end.
func Run(p Prog, base []api.KV) ([]api.KV, State) {
	if !Sane(p) || !rises(base) {
		return base, State{}
	}
	a, s := alone{base: base}, State{}
	for {
		q, at, asked := Next(p, s)
		if !asked {
			return a.all(), at
		}
		next, r, e := a.answer(q)
		if e != api.OK {
			return a.all(), at
		}
		a = next
		if s, e = Take(p, at, r); e != api.OK {
			return a.all(), at
		}
	}
}
