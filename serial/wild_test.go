package serial_test

import (
	"reflect"
	"testing"

	"godwit/api"
	"godwit/buffer"
	"godwit/chain"
	"godwit/client"
	"godwit/conns"
	"godwit/crc"
	"godwit/enc"
	"godwit/frame"
	"godwit/keys"
	"godwit/msg"
	"godwit/net"
	"godwit/pipe"
	"godwit/prog"
	"godwit/reads"
	"godwit/retry"
	"godwit/seqs"
	"godwit/serial"
	"godwit/server"
	"godwit/ssi"
	"godwit/store"
	"godwit/stream"
	"godwit/timers"
	"godwit/tokens"
	"godwit/txn"
	"godwit/world"
)

// calls are all that the document lists, but the methods of enc.Reader, by package; of those that have one, Sane first.
func calls() map[string][]any {
	return map[string][]any{
		"enc":    {enc.U, enc.List, enc.New},
		"crc":    {crc.Table, crc.Of, crc.More, crc.Shift, crc.Join},
		"frame":  {frame.Put, frame.Read, frame.Len, frame.All},
		"stream": {stream.Sane, stream.Feed, stream.Wants},
		"msg":    {msg.SaneReq, msg.PutReq, msg.ReadReq, msg.SaneReply, msg.PutReply, msg.ReadReply, msg.SameReq, msg.SameReply},
		"keys":   {keys.Cmp, keys.Sane, keys.SaneRange, keys.Has, keys.Empty, keys.Meet, keys.One, keys.Find, keys.Insert, keys.Sorted},
		"chain":  {chain.Sane, chain.At, chain.Value, chain.Push, chain.Last, chain.Vacuum, chain.Since},
		"store":  {store.Sane, store.Get, store.Scan, store.Install, store.Vacuum, store.Wrote, store.Changed, store.Latest},
		"buffer": {buffer.Sane, buffer.Set, buffer.Get, buffer.Over, buffer.Touches},
		"reads":  {reads.Sane, reads.Add, reads.Hits, reads.Drop, reads.Of, reads.Keep},
		"ssi":    {ssi.Sane, ssi.Begin, ssi.Read, ssi.Commit, ssi.Abort, ssi.Clean, ssi.Oldest, ssi.Find},
		"tokens": {tokens.Sane, tokens.Start, tokens.Finish, tokens.Fence, tokens.Release, tokens.Find},
		"timers": {timers.Sane, timers.Set, timers.Clear, timers.Tick, timers.Next, timers.Left},
		"txn":    {txn.Sane, txn.Begin, txn.Get, txn.Scan, txn.Put, txn.Commit, txn.Abort, txn.Status, txn.Release, txn.Find},
		"seqs":   {seqs.Sane, seqs.Accept, seqs.Seen, seqs.Missing, seqs.Full},
		"pipe":   {pipe.Sane, pipe.Offer, pipe.Ready, pipe.Answer},
		"conns":  {conns.Sane, conns.Open, conns.Find, conns.Set, conns.Hello, conns.Close},
		"server": {server.Sane, server.New, server.Connect, server.Data, server.Drop, server.Tick, server.Do},
		"prog":   {prog.Sane, prog.Next, prog.Take, prog.Val, prog.Num, prog.Run},
		"retry":  {retry.Sane, retry.Delay, retry.Total, retry.By, retry.Spread},
		"client": {client.Sane, client.New, client.Submit, client.Connected, client.Down, client.Data, client.Tick, client.Drain},
		"net":    {net.Sane, net.Open, net.Cut, net.Send, net.Take, net.Drop, net.Dup, net.Flip, net.Of, net.At},
		"world":  {world.New, world.Step, world.Run, world.Quiet},
		"serial": {serial.Sane, serial.Ahead, serial.Order, serial.Replay, serial.Of, serial.Holds},
	}
}

// wild makes values of any type: out of nothing, or out of what worlds have had, a little changed.
type wild struct {
	v    uint32
	seen map[reflect.Type][]reflect.Value
}

func (d *wild) dice(n int) int {
	d.v = d.v*1664525 + 1013904223
	return int(d.v>>8) % n
}

// number is a number near one of those that matter.
func (d *wild) number() int {
	some := []int{0, 0, 0, 1, 2, 3, 5, 8, 16, 32, 64, 128, 512, 65535, 1 << 20, 1 << 30, 1<<32 - 1, 1 << 40, 1 << 41, 1<<62 - 1 + 1<<62, -1 << 63, -1}
	return some[d.dice(len(some))] + d.dice(3) - 1
}

// length is how many things a list has; most have few.
func (d *wild) length() int {
	if d.dice(12) == 0 {
		return []int{8, 9, 16, 17, 25, 32, 33, 64, 65, 129}[d.dice(10)]
	}
	return d.dice(4)
}

// make makes a value.
func (d *wild) make(t reflect.Type) reflect.Value {
	if l := d.seen[t]; len(l) > 0 && d.dice(4) > 0 {
		x := clone(l[d.dice(len(l))])
		for range d.dice(3) {
			d.change(x)
		}
		return x
	}
	x := reflect.New(t).Elem()
	d.fill(x)
	return x
}

// fill gives a value anything.
func (d *wild) fill(x reflect.Value) {
	switch x.Kind() {
	case reflect.Int:
		x.SetInt(int64(d.number()))
	case reflect.Uint8, reflect.Uint32, reflect.Uint64:
		x.SetUint(uint64(d.number()) & (1<<x.Type().Bits() - 1))
	case reflect.Bool:
		x.SetBool(d.dice(2) == 0)
	case reflect.Struct:
		for i := range x.NumField() {
			x.Field(i).Set(d.make(x.Field(i).Type()))
		}
	case reflect.Array:
		for i := range x.Len() {
			d.fill(x.Index(i))
		}
	case reflect.Slice:
		n := d.length()
		if n == 0 && d.dice(2) == 0 {
			return
		}
		x.Set(reflect.MakeSlice(x.Type(), n, n+d.dice(2)))
		for i := range n {
			x.Index(i).Set(d.make(x.Type().Elem()))
		}
	default:
		panic(x.Kind())
	}
}

// change changes one thing somewhere in a value.
func (d *wild) change(x reflect.Value) {
	switch {
	case x.Kind() == reflect.Struct && d.dice(20) > 0:
		d.change(x.Field(d.dice(x.NumField())))
	case (x.Kind() == reflect.Slice || x.Kind() == reflect.Array) && x.Len() > 0 && d.dice(4) > 0:
		d.change(x.Index(d.dice(x.Len())))
	case x.Kind() == reflect.Int && d.dice(2) == 0:
		x.SetInt(x.Int() + int64(d.dice(5)) - 2)
	default:
		d.fill(x)
	}
}

// clone is a value in memory of its own.
func clone(x reflect.Value) reflect.Value {
	y := reflect.New(x.Type()).Elem()
	switch x.Kind() {
	case reflect.Struct:
		for i := range x.NumField() {
			y.Field(i).Set(clone(x.Field(i)))
		}
	case reflect.Slice:
		if !x.IsNil() {
			y.Set(reflect.MakeSlice(x.Type(), x.Len(), x.Len()))
		}
		for i := range x.Len() {
			y.Index(i).Set(clone(x.Index(i)))
		}
	default:
		y.Set(x)
	}
	return y
}

// learn keeps a value, and all that is in it.
func (d *wild) learn(x reflect.Value) {
	if l := d.seen[x.Type()]; len(l) < 400 {
		d.seen[x.Type()] = append(l, clone(x))
	} else {
		l[d.dice(len(l))] = clone(x)
	}
	switch x.Kind() {
	case reflect.Struct:
		for i := range x.NumField() {
			d.learn(x.Field(i))
		}
	case reflect.Slice:
		for i := range min(x.Len(), 4) {
			d.learn(x.Index(i))
		}
	}
}

// live lets worlds live a while, and keeps what they had.
func (d *wild) live() {
	for seed := range 6 {
		w, _ := world.New(world.Setup{Clients: 1 + seed%4, Idle: 50, Cfg: client.Config{Who: 1, Plan: retry.Plan{Wait: 3, Most: 9, Tries: 4}, Attempts: 9, Budget: 30}})
		for i := range 400 {
			a := world.Act{What: []int{0, 1, 2, 2, 2, 2, 2, 2, 2, 2, 3, 4, 5, 6, 7}[d.dice(15)], A: d.dice(4), B: d.dice(999)}
			if a.What == 0 {
				a.Task = client.Task{Token: i, Prog: prog.Prog{Ops: []prog.Op{{What: prog.Get, Key: []byte{byte('a' + d.dice(3))}}, {What: prog.Scan, Rng: api.Range{Open: true}}, {What: prog.Put, Key: []byte{byte('a' + d.dice(3))}}}}}
			}
			w = world.Step(w, a)
			d.learn(reflect.ValueOf(a))
			if i%10 == 0 {
				d.learn(reflect.ValueOf(w))
			}
		}
	}
}

// errIn is the error among results.
func errIn(l []reflect.Value) api.Errno {
	for _, x := range l {
		if e, ok := x.Interface().(api.Errno); ok {
			return e
		}
	}
	return api.OK
}

// comparable makes results ones that may be compared: a reader is told by what it reads.
func comparable(l []reflect.Value) []any {
	var out []any
	for _, x := range l {
		if r, ok := x.Interface().(*enc.Reader); ok {
			out = append(out, r.U(3), r.List(9), r.Flag(), r.At(), r.Err(), r.End())
			continue
		}
		out = append(out, x.Interface())
	}
	return out
}

// TestAllCallsAtAllArguments: no call panics, or goes on for ever, or changes what was handed in, or answers otherwise the second time; what may be stays so.
func TestAllCallsAtAllArguments(t *testing.T) {
	d := &wild{v: 99, seen: map[reflect.Type][]reflect.Value{}}
	d.live()
	for name, fs := range calls() {
		for k, f := range fs {
			call := reflect.ValueOf(f)
			for range 400 {
				var args, kept []reflect.Value
				for i := range call.Type().NumIn() {
					x := d.make(call.Type().In(i))
					args, kept = append(args, x), append(kept, clone(x))
				}
				first := call.Call(args)
				told := comparable(first)
				for i := range args {
					if !reflect.DeepEqual(args[i].Interface(), kept[i].Interface()) {
						t.Fatalf("%s %d changes %+v", name, k, kept[i])
					}
				}
				if again := comparable(call.Call(kept)); !reflect.DeepEqual(told, again) {
					t.Fatalf("%s %d answers otherwise: %+v, %+v", name, k, told, again)
				}
				if name != "enc" && k > 0 {
					stays(t, name, k, reflect.ValueOf(fs[0]), args, first)
				}
			}
		}
	}
}

// stays: of what may be, what is told without an error may be, too.
func stays(t *testing.T, name string, k int, sane reflect.Value, in, out []reflect.Value) {
	t.Helper()
	if sane.Type().NumIn() != 1 || sane.Type().Out(0).Kind() != reflect.Bool {
		return
	}
	of := sane.Type().In(0)
	if len(in) == 0 || len(out) == 0 || in[0].Type() != of || out[0].Type() != of || errIn(out) != api.OK {
		return
	}
	if sane.Call(in[:1])[0].Bool() && !sane.Call(out[:1])[0].Bool() {
		t.Fatalf("%s %d: %+v\nbecomes %+v", name, k, in, out[0])
	}
}

// TestReadersAtAllArguments: nor does any method of a reader.
func TestReadersAtAllArguments(t *testing.T) {
	d := &wild{v: 5, seen: map[reflect.Type][]reflect.Value{}}
	for range 3000 {
		r := enc.New(d.make(reflect.TypeFor[[]byte]()).Bytes())
		if d.dice(20) == 0 {
			r = nil
		} else if d.dice(20) == 0 {
			r = new(enc.Reader)
		}
		for range 6 {
			at := r.At()
			switch d.dice(5) {
			case 0:
				r.U(d.number())
			case 1:
				r.U(1 + d.dice(2))
			case 2:
				r.List(d.number())
			case 3:
				r.Flag()
			case 4:
				r.Fail(api.Errno(d.number()))
			}
			if r.At() < at || r.Err() != api.OK && r.End() != r.Err() {
				t.Fatal(at, r.At(), r.Err())
			}
		}
	}
}
