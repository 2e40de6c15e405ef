package client

import (
	"slices"

	"godwit/api"
	"godwit/frame"
	"godwit/msg"
	"godwit/prog"
	"godwit/retry"
	"godwit/stream"
)

// lay frames Req behind Out; one that can't be framed would never be answered.
func (c Client) lay() Client {
	payload, e := msg.PutReq(c.Req)
	if e != api.OK {
		return c.die()
	}
	out, e := frame.Put(c.Out, payload)
	if e != api.OK {
		return c.die()
	}
	c.Out = out
	return c
}

// full: is there too much in Out for anything more to be sent?
func (c Client) full() bool { return len(c.Out) > fullOut }

// send sends a request, or dies, if there is no number for it, or no room.
func (c Client) send(r msg.Req) Client {
	if c.Seq > api.MaxSeq || c.full() {
		return c.die()
	}
	r.Seq = c.Seq
	c.Seq++
	c.Req = r
	c.Sent = 0
	c.Left, _ = retry.Delay(c.Cfg.Plan, 0)
	return c.lay()
}

// sendAgain sends the last request again, or loses the connection, if that was often enough.
func (c Client) sendAgain() Client {
	d, ok := retry.Delay(c.Cfg.Plan, c.Sent+1)
	switch {
	case !ok:
		return c.lose()
	case c.full():
		return c.die()
	}
	c.Sent++
	c.Left = d
	return c.lay()
}

// goOn goes on with the task that is first now.
func (c Client) goOn() Client {
	if len(c.Tasks) == 0 {
		c.Phase = Idle
		c.Left = 0
		return c
	}
	if c.Attempt > 0 {
		return c.ask()
	}
	c.Attempt = 1
	return c.begin()
}

// ask asks what became of the attempt.
func (c Client) ask() Client {
	c.Phase = Ask
	return c.send(msg.Req{Kind: msg.Status, Token: c.Tasks[0].Token, Attempt: c.Attempt})
}

// begin begins the attempt.
func (c Client) begin() Client {
	c.St = prog.State{}
	c.Risk = false
	c.Phase = Begin
	t := c.Tasks[0]
	return c.send(msg.Req{Kind: msg.Begin, Token: t.Token, Attempt: c.Attempt, RO: t.Prog.RO})
}

// step asks what the program asks next, or for its end.
func (c Client) step() Client {
	r, st, asks := prog.Next(c.Tasks[0].Prog, c.St)
	c.St = st
	switch {
	case asks:
		c.Phase = Run
		return c.send(r)
	case st.Stopped:
		c.Phase = Quit
		return c.send(msg.Req{Kind: msg.Abort})
	}
	tried := Tried{Token: c.Tasks[0].Token, Attempt: c.Attempt, Regs: st.Regs}
	c.Phase = End
	c = c.send(msg.Req{Kind: msg.Commit})
	if c.Phase == Dead {
		return c
	}
	c.Tried = slices.Concat(c.Tried, []Tried{tried})
	c.Risk = true
	return c
}

// again tries again later, or is through, if that was often enough.
func (c Client) again() Client {
	if c.Attempt >= c.Cfg.Attempts {
		return c.through(Exhausted, 0)
	}
	c.Attempt++
	c.Risk = false
	c.Phase = Back
	n := min(c.Attempt-1, c.Cfg.Plan.Tries-1)
	c.Left, _ = retry.Spread(c.Cfg.Plan, n, uint64(c.Cfg.Who))
	return c
}

// report lays a report behind Done.
func (c Client) report(r Report) Client {
	c.Done = slices.Concat(c.Done, []Report{r})
	return c
}

// through reports the task, and lets the server forget its token.
func (c Client) through(code, ts int) Client {
	r := Report{Token: c.Tasks[0].Token, Code: code, Attempt: c.Attempt, Ts: ts}
	if code == Committed {
		r.Regs = c.St.Regs
	}
	c = c.report(r)
	c.Risk = false
	c.Phase = Free
	return c.send(msg.Req{Kind: msg.Release, Token: r.Token})
}

// pass lets the task go, which was reported.
func (c Client) pass() Client {
	c.Tasks = slices.Clone(c.Tasks[1:])
	c.Attempt = 0
	return c
}

// lose loses the connection, or dies, if that was too often.
func (c Client) lose() Client {
	c.Resets = min(c.Resets+1, maxResets)
	c.Out = nil
	c.In = stream.Stream{}
	if c.Resets > c.Cfg.Budget || c.Epoch >= maxEpoch {
		return c.die()
	}
	if c.Phase == Free {
		c = c.pass()
	}
	c.Phase = Lost
	c.Epoch++
	c.Left = 0
	return c
}

// fate is what is known of the task, when there will be no connection any more.
func (c Client) fate() int {
	switch {
	case c.Risk:
		return Unknown
	case c.Attempt > 0 && c.St.Stopped:
		return Aborted
	}
	return Exhausted
}

// die reports all tasks that were not, and is Dead.
func (c Client) die() Client {
	for i, t := range c.Tasks {
		switch {
		case i > 0:
			c = c.report(Report{Token: t.Token, Code: Exhausted})
		case c.Phase != Free:
			c = c.report(Report{Token: t.Token, Code: c.fate(), Attempt: c.Attempt})
		}
	}
	c.Tasks = nil
	c.Phase = Dead
	c.Left = 0
	return c
}

// due does what is to be done when the time is over.
func (c Client) due() Client {
	switch c.Phase {
	case Back:
		return c.begin()
	case Pause:
		return c.ask()
	}
	return c.sendAgain()
}
