package conns

import (
	"slices"
	"strconv"
	"testing"

	"godwit/api"
	"godwit/msg"
	"godwit/pipe"
	"godwit/stream"
)

// tell is a table as a text.
func tell(t Table) string {
	out := ""
	for _, c := range t.L {
		out += strconv.Itoa(c.ID) + ":" + strconv.Itoa(c.Who) + "/" + strconv.Itoa(c.Epoch) + "@" + strconv.Itoa(c.Tx) + " "
	}
	return out + "<" + strconv.Itoa(t.Next)
}

// three is a table of nobody's 2, who 5's 4, and who 6's 7.
func three() Table {
	return Table{L: []Conn{{ID: 2, Who: -1, Tx: -1}, {ID: 4, Who: 5, Epoch: 3, Tx: 8}, {ID: 7, Who: 6, Epoch: 1, Tx: -1}}, Next: 9}
}

// odd may not be.
func odd() Table {
	t := three()
	t.Next = 7
	return t
}

// full has 8 connections.
func full() Table {
	t := Table{}
	for range 8 {
		t, _, _ = Open(t)
	}
	return t
}

func TestSane(t *testing.T) {
	change := func(f func(t *Table)) Table {
		x := three()
		f(&x)
		return x
	}
	for k, x := range []Table{{}, three(), full(), {Next: api.MaxTs}, change(func(t *Table) { t.L[0].Tx = api.MaxTs }), change(func(t *Table) { t.L[1].Who, t.L[1].Epoch = api.MaxTs, 65535 }), change(func(t *Table) { t.L[1].Who, t.L[1].Epoch = 0, 0 }), change(func(t *Table) { t.L[0].Stream.Dead = api.ErrSum })} {
		if !Sane(x) {
			t.Error("may be", k)
		}
	}
	for k, x := range []Table{
		odd(), {Next: -1}, {Next: api.MaxTs + 1},
		change(func(t *Table) { t.L[0].ID = -1 }), change(func(t *Table) { t.L[0].ID = 4 }), change(func(t *Table) { t.L[0], t.L[1] = t.L[1], t.L[0] }),
		change(func(t *Table) { t.L[0].Who = -2 }), change(func(t *Table) { t.L[0].Epoch = 1 }), change(func(t *Table) { t.L[1].Who = api.MaxTs + 1 }), change(func(t *Table) { t.L[1].Epoch = 65536 }), change(func(t *Table) { t.L[1].Epoch = -1 }), change(func(t *Table) { t.L[1].Who = 6 }),
		change(func(t *Table) { t.L[0].Tx = -2 }), change(func(t *Table) { t.L[0].Tx = api.MaxTs + 1 }), change(func(t *Table) { t.L[0].Tx = 8 }),
		change(func(t *Table) { t.L[0].Stream.Dead = 1 }), change(func(t *Table) { t.L[0].Pipe.Next = -1 }),
		{L: append(full().L, Conn{ID: 8, Who: -1, Tx: -1}), Next: 9},
	} {
		if Sane(x) {
			t.Error("may not be", k)
		}
	}
}

func TestOpen(t *testing.T) {
	x, id, e := Open(three())
	if id != 9 || e != api.OK || !Sane(x) || tell(x) != "2:-1/0@-1 4:5/3@8 7:6/1@-1 9:-1/0@-1 <10" {
		t.Error(tell(x), id, e)
	}
	if c, _ := Find(x, 9); c.Stream.Dead != 0 || c.Pipe.Next != 0 {
		t.Error(c)
	}
	last := full()
	last.Next = api.MaxTs
	for k, z := range []struct {
		t Table
		e api.Errno
	}{{odd(), api.ErrArg}, {last, api.ErrLimit}, {Table{Next: api.MaxTs}, api.ErrLimit}, {full(), api.ErrBusy}} {
		if x, id, e := Open(z.t); e != z.e || id != 0 || tell(x) != "<0" {
			t.Error(k, e)
		}
	}
	if x, id, e := Open(Table{Next: api.MaxTs - 1}); id != api.MaxTs-1 || e != api.OK || !Sane(x) {
		t.Error(id, e)
	}
}

func TestFind(t *testing.T) {
	if c, ok := Find(three(), 4); !ok || c.Who != 5 {
		t.Error(c, ok)
	}
	if c, ok := Find(three(), 3); ok || c.ID != 0 || c.Who != 0 {
		t.Error(c, ok)
	}
}

func TestSet(t *testing.T) {
	x := three()
	c := x.L[0]
	c.Tx = 11
	c.Stream, _, _ = stream.Feed(c.Stream, []byte{1})
	c.Pipe, _, _, _ = pipe.Offer(c.Pipe, msg.Req{Kind: msg.Bye})
	got, e := Set(x, c)
	if e != api.OK || got.L[0].Tx != 11 || len(got.L[0].Stream.Buf) != 1 || len(got.L[0].Pipe.Wait) != 1 || tell(x) != tell(three()) {
		t.Error(tell(got), e)
	}
	for k, z := range []struct {
		t Table
		c Conn
		e api.Errno
	}{
		{odd(), Conn{ID: 99}, api.ErrArg}, {x, Conn{ID: 99, Who: -9}, api.ErrName}, {x, Conn{ID: 2, Who: 5, Epoch: 9, Tx: -1}, api.ErrArg}, {x, Conn{ID: 2, Who: -1, Tx: 8}, api.ErrArg}, {x, Conn{ID: 2, Who: -2, Tx: -1}, api.ErrArg},
	} {
		if got, e := Set(z.t, z.c); e != z.e || tell(got) != "<0" {
			t.Error(k, e)
		}
	}
}

func TestHello(t *testing.T) {
	for k, z := range []struct {
		t              Table
		id, who, epoch int
		want           string
		gone           []int
		e              api.Errno
	}{
		{odd(), 2, 1, 1, "<0", nil, api.ErrArg}, {odd(), 99, 1, 1, "<0", nil, api.ErrArg}, {odd(), 4, 1, 1, "<0", nil, api.ErrArg}, {three(), 2, -1, 1, "<0", nil, api.ErrArg}, {three(), 2, api.MaxTs + 1, 1, "<0", nil, api.ErrArg}, {three(), 2, 1, -1, "<0", nil, api.ErrArg}, {three(), 99, 1, 65536, "<0", nil, api.ErrArg},
		{three(), 99, 5, 1, "<0", nil, api.ErrName}, {three(), 4, 5, 1, "<0", nil, api.ErrState}, {three(), 4, 9, 9, "<0", nil, api.ErrState}, {three(), 2, 5, 3, "<0", nil, api.ErrFenced}, {three(), 2, 5, 0, "<0", nil, api.ErrFenced},
		{three(), 2, 5, 4, "2:5/4@-1 7:6/1@-1 <9", []int{4}, 0}, {three(), 2, 9, 0, "2:9/0@-1 4:5/3@8 7:6/1@-1 <9", nil, 0}, {three(), 2, api.MaxTs, 65535, "2:1099511627776/65535@-1 4:5/3@8 7:6/1@-1 <9", nil, 0},
	} {
		got, gone, e := Hello(z.t, z.id, z.who, z.epoch)
		var ids []int
		for _, c := range gone {
			ids = append(ids, c.ID)
		}
		if tell(got) != z.want || !slices.Equal(ids, z.gone) || e != z.e || !Sane(got) {
			t.Error(k, tell(got), ids, e)
		}
	}
	if _, gone, _ := Hello(three(), 2, 5, 4); len(gone) != 1 || gone[0].Tx != 8 || gone[0].Epoch != 3 {
		t.Error(gone)
	}
}

func TestClose(t *testing.T) {
	x := three()
	got, c, ok := Close(x, 4)
	if tell(got) != "2:-1/0@-1 7:6/1@-1 <9" || c.Who != 5 || !ok || tell(x) != tell(three()) {
		t.Error(tell(got), c, ok)
	}
	for k, z := range []struct {
		t  Table
		id int
	}{{three(), 3}, {odd(), 4}, {Table{}, 0}} {
		if got, c, ok := Close(z.t, z.id); ok || tell(got) != tell(z.t) || c.ID != 0 || c.Who != 0 {
			t.Error(k, tell(got), c, ok)
		}
	}
}

func TestOfEachWhoThereIsOneAtMost(t *testing.T) {
	v := uint32(2)
	dice := func(n int) int {
		v = v*1664525 + 1013904223
		return int(v>>16) % n
	}
	x := Table{}
	greatest := map[int]int{}
	for range 5000 {
		switch dice(3) {
		case 0:
			if next, _, e := Open(x); e == api.OK {
				x = next
			}
		case 1:
			who, epoch := dice(3), dice(9)
			if next, _, e := Hello(x, max(0, x.Next-1-dice(8)), who, epoch); e == api.OK {
				x = next
				greatest[who] = epoch
			}
		case 2:
			if next, c, ok := Close(x, max(0, x.Next-1-dice(20))); ok {
				x = next
				delete(greatest, c.Who)
			}
		}
		if !Sane(x) {
			t.Fatal(tell(x))
		}
		for _, c := range x.L {
			if c.Who >= 0 && greatest[c.Who] != c.Epoch {
				t.Fatal(tell(x), greatest)
			}
		}
	}
}
