package client

import (
	"godwit/api"
	"godwit/msg"
	"godwit/prog"
	"godwit/retry"
)

// onReply is what a reply does to a client, by the phase in which it comes; nil, where none is awaited.
func onReply(phase int) func(Client, msg.Reply) Client {
	table := [...]func(Client, msg.Reply) Client{
		Greet: Client.greeted,
		Begin: Client.begun,
		Run:   Client.answered,
		End:   Client.ended,
		Quit:  Client.quit,
		Ask:   Client.told,
		Free:  Client.freed,
	}
	if !asked(phase) {
		return nil
	}
	return table[phase]
}

// take takes a payload.
func (c Client) take(payload []byte) Client {
	r, e := msg.ReadReply(payload)
	if e != api.OK {
		return c.lose()
	}
	on := onReply(c.Phase)
	if on == nil || r.Kind != c.Req.Kind || r.Seq != c.Req.Seq {
		return c
	}
	return on(c, r)
}

// greeted: the server knows whose the connection is.
func (c Client) greeted(r msg.Reply) Client {
	if r.Code != api.OK {
		return c.lose()
	}
	return c.goOn()
}

// refused is what a client does, whose attempt was refused: where the token may be done already, it asks.
func (c Client) refused(code api.Errno) Client {
	if code == api.ErrState {
		return c.ask()
	}
	return c.again()
}

// begun: the attempt has begun.
func (c Client) begun(r msg.Reply) Client {
	if r.Code != api.OK {
		return c.refused(r.Code)
	}
	return c.step()
}

// answered: the program's request was answered.
func (c Client) answered(r msg.Reply) Client {
	if r.Code != api.OK {
		return c.again()
	}
	st, e := prog.Take(c.Tasks[0].Prog, c.St, r)
	if e != api.OK {
		return c.again()
	}
	c.St = st
	return c.step()
}

// ended: the attempt is done.
func (c Client) ended(r msg.Reply) Client {
	if r.Code != api.OK {
		return c.refused(r.Code)
	}
	return c.through(Committed, r.N)
}

// quit: the attempt was given up, as the program wanted.
func (c Client) quit(_ msg.Reply) Client { return c.through(Aborted, 0) }

// told: the server has told what became of the attempt.
func (c Client) told(r msg.Reply) Client {
	switch {
	case r.Code != api.OK:
		c.Phase = Pause
		c.Left, _ = retry.Delay(c.Cfg.Plan, 0)
		return c
	case r.N > 0 && c.Risk:
		return c.through(Committed, r.N)
	case r.N > 0:
		// The token was done, but not by an attempt that this client ended: it was another one's.
		return c.through(Unknown, r.N)
	case c.St.Stopped:
		return c.through(Aborted, 0)
	}
	return c.again()
}

// freed: the server has forgotten the token.
func (c Client) freed(_ msg.Reply) Client {
	c = c.pass()
	c.Phase = Idle
	return c.goOn()
}
