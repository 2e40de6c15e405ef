package net

import (
	"bytes"
	"strconv"
	"testing"

	"godwit/api"
)

// tell is a net as a text.
func tell(n Net) string {
	out := "<" + strconv.Itoa(n.Next)
	for _, x := range n.Links {
		out += " " + strconv.Itoa(x.ID) + ":" + strconv.Itoa(x.Client) + "-" + strconv.Itoa(x.Conn)
	}
	for _, p := range n.Packets {
		out += " " + strconv.Itoa(p.Link) + strconv.FormatBool(p.Up)[:1] + "[" + string(p.Bytes) + "]"
	}
	return out
}

// two has two links, and some packets, one of a link that is gone.
func two() Net {
	return Net{
		Links:   []Link{{1, 0, 5}, {3, 2, 0}},
		Packets: []Packet{{1, true, []byte("a")}, {2, false, []byte("b")}, {3, false, []byte("c")}},
		Next:    4,
	}
}

const twoText = "<4 1:0-5 3:2-0 1t[a] 2f[b] 3f[c]"

// odd may not be.
func odd() Net {
	n := two()
	n.Next = 3
	return n
}

// full has as many packets as there may be.
func full() Net {
	n := two()
	for len(n.Packets) < 64 {
		n.Packets = append(n.Packets, n.Packets[0])
	}
	return n
}

func TestSane(t *testing.T) {
	change := func(f func(n *Net)) Net {
		n := two()
		f(&n)
		return n
	}
	for k, n := range []Net{{}, two(), full(), {Next: api.MaxTs}, change(func(n *Net) { n.Links[0].Conn = 1 << 62 }), change(func(n *Net) { n.Packets[0].Bytes = make([]byte, 2048) }), change(func(n *Net) { n.Links[0].Client = 3 })} {
		if !Sane(n) {
			t.Error("may be", k)
		}
	}
	for k, n := range []Net{
		odd(), {Links: []Link{{0, 0, 0}}}, {Links: []Link{{3, 0, 0}}, Next: 3}, {Next: -1}, {Next: api.MaxTs + 1}, change(func(n *Net) { n.Links[0].ID = -1 }), change(func(n *Net) { n.Links[0].ID = 3 }), change(func(n *Net) { n.Links[0], n.Links[1] = n.Links[1], n.Links[0] }), change(func(n *Net) { n.Links[0].Client = -1 }), change(func(n *Net) { n.Links[0].Client = 4 }), change(func(n *Net) { n.Links[0].Client = 2 }), change(func(n *Net) { n.Links[0].Conn = -1 }), change(func(n *Net) { n.Links[0].Conn = 0 }),
		change(func(n *Net) { n.Packets[0].Link = -1 }), change(func(n *Net) { n.Packets[0].Link = 4 }), change(func(n *Net) { n.Packets[0].Bytes = nil }), change(func(n *Net) { n.Packets[0].Bytes = make([]byte, 2049) }), {Next: 9, Packets: append(full().Packets, full().Packets[0])},
	} {
		if Sane(n) {
			t.Error("may not be", k)
		}
	}
}

func TestOfANetThatMayNotBeNothingIsTold(t *testing.T) {
	n := odd()
	a, id, e1 := Open(n, 1, 1)
	b, e2 := Send(n, 1, true, []byte("x"))
	c, p, ok := Take(n, 0)
	d, e3 := Dup(n, 0)
	for k, x := range []Net{a, b, c, d, Cut(n, 1), Drop(n, 0), Flip(n, 0, 0)} {
		if tell(x) != "<0" {
			t.Error(k, tell(x))
		}
	}
	_, of := Of(n, 0)
	_, at := At(n, 5)
	if e1 != api.ErrArg || e2 != e1 || e3 != e1 || id != 0 || ok || p.Bytes != nil || of || at {
		t.Error(e1, e2, e3, ok, of, at)
	}
}

func TestOpenAndCut(t *testing.T) {
	n, id, e := Open(two(), 1, 9)
	if id != 4 || e != api.OK || tell(n) != "<5 1:0-5 3:2-0 4:1-9 1t[a] 2f[b] 3f[c]" || !Sane(n) {
		t.Error(tell(n), id, e)
	}
	last := two()
	last.Next = api.MaxTs
	for k, x := range []struct {
		n            Net
		client, conn int
		e            api.Errno
	}{{two(), -1, 9, api.ErrArg}, {two(), 4, 9, api.ErrArg}, {two(), 1, -1, api.ErrArg}, {two(), 0, 9, api.ErrState}, {two(), 1, 5, api.ErrState}, {last, 1, 0, api.ErrState}, {last, 1, 9, api.ErrLimit}} {
		if n, id, e := Open(x.n, x.client, x.conn); e != x.e || id != 0 || tell(n) != "<0" {
			t.Error(k, e)
		}
	}
	if got := tell(Cut(two(), 1)); got != "<4 3:2-0 1t[a] 2f[b] 3f[c]" {
		t.Error(got)
	}
	if got := tell(Cut(two(), 2)); got != twoText {
		t.Error(got)
	}
}

func TestOfAndAt(t *testing.T) {
	if x, ok := Of(two(), 2); !ok || x.ID != 3 {
		t.Error(x, ok)
	}
	if x, ok := Of(two(), 1); ok || x != (Link{}) {
		t.Error(x, ok)
	}
	if x, ok := At(two(), 5); !ok || x.ID != 1 {
		t.Error(x, ok)
	}
	if x, ok := At(two(), 2); ok || x != (Link{}) {
		t.Error(x, ok)
	}
}

func TestSend(t *testing.T) {
	n, e := Send(two(), 3, true, []byte("x"))
	if e != api.OK || tell(n) != twoText+" 3t[x]" {
		t.Error(tell(n), e)
	}
	for k, x := range []struct {
		n    Net
		link int
		b    []byte
		e    api.Errno
	}{{two(), 2, nil, api.ErrName}, {two(), -1, []byte("x"), api.ErrName}, {full(), 1, nil, api.ErrArg}, {two(), 1, make([]byte, 2049), api.ErrArg}, {full(), 1, []byte("x"), api.ErrBusy}, {full(), 2, []byte("x"), api.ErrName}} {
		if n, e := Send(x.n, x.link, true, x.b); e != x.e || tell(n) != "<0" {
			t.Error(k, e)
		}
	}
	if n, e := Send(Drop(full(), 0), 1, false, make([]byte, 2048)); e != api.OK || len(n.Packets) != 64 || len(n.Packets[63].Bytes) != 2048 || !Sane(n) {
		t.Error(e)
	}
}

func TestTakeAndDrop(t *testing.T) {
	for k, want := range []string{"<4 1:0-5 3:2-0 2f[b] 3f[c]", "<4 1:0-5 3:2-0 1t[a] 3f[c]", "<4 1:0-5 3:2-0 1t[a] 2f[b]"} {
		from := two()
		n, p, ok := Take(from, k)
		if tell(n) != want || !ok || string(p.Bytes) != string(rune('a'+k)) || tell(from) != twoText {
			t.Error(k, tell(n), p, ok)
		}
		if got := tell(Drop(two(), k)); got != want {
			t.Error(k, got)
		}
	}
	for _, k := range []int{-1, 3, 1 << 62} {
		if n, p, ok := Take(two(), k); ok || tell(n) != twoText || p.Bytes != nil || p.Link != 0 {
			t.Error(k, ok)
		}
		if tell(Drop(two(), k)) != twoText {
			t.Error("drop", k)
		}
	}
}

func TestDup(t *testing.T) {
	if n, e := Dup(two(), 1); e != api.OK || tell(n) != twoText+" 2f[b]" {
		t.Error(tell(n), e)
	}
	for k, x := range []struct {
		n Net
		k int
		e api.Errno
	}{{two(), -1, api.ErrName}, {two(), 3, api.ErrName}, {full(), 64, api.ErrName}, {full(), 0, api.ErrBusy}} {
		if n, e := Dup(x.n, x.k); e != x.e || tell(n) != "<0" {
			t.Error(k, e)
		}
	}
}

func TestFlip(t *testing.T) {
	n := two()
	n.Packets[1].Bytes = []byte{0, 0}
	for bit, want := range map[int][]byte{0: {1, 0}, 7: {128, 0}, 8: {0, 1}, 15: {0, 128}, 16: {1, 0}, 1<<62 + 9: {0, 2}} {
		got := Flip(n, 1, bit)
		if !bytes.Equal(got.Packets[1].Bytes, want) || !bytes.Equal(n.Packets[1].Bytes, []byte{0, 0}) {
			t.Error(bit, got.Packets[1])
		}
	}
	if tell(Flip(two(), 1, -1)) != twoText || tell(Flip(two(), 3, 1)) != twoText || tell(Flip(two(), -1, 1)) != twoText {
		t.Error("none")
	}
}

func TestSentDoubledAndDroppedOnceItIsThereOnce(t *testing.T) {
	n, _ := Send(Net{Links: []Link{{0, 0, 0}}, Next: 1}, 0, true, []byte("x"))
	n, _ = Dup(n, 0)
	if n = Drop(n, 0); tell(n) != "<1 0:0-0 0t[x]" {
		t.Error(tell(n))
	}
}

func TestNothingComesThatWasNotSent(t *testing.T) {
	v := uint32(8)
	dice := func(n int) int {
		v = v*1664525 + 1013904223
		return int(v>>16) % n
	}
	n := Net{}
	sent := map[string]bool{}
	taken := 0
	for i := range 20000 {
		switch dice(7) {
		case 0:
			if next, _, e := Open(n, dice(4), dice(4)); e == api.OK {
				n = next
			}
		case 1:
			if dice(4) == 0 {
				n = Cut(n, max(0, n.Next-1-dice(3)))
			}
		case 2, 3:
			text := strconv.Itoa(i)
			link := max(0, n.Next-1-dice(3))
			up := dice(2) == 0
			if next, e := Send(n, link, up, []byte(text)); e == api.OK {
				n = next
				sent[tell(Net{Packets: n.Packets[len(n.Packets)-1:]})] = true
			}
		case 4:
			next, p, ok := Take(n, dice(8))
			n = next
			if ok {
				taken++
				if !sent[tell(Net{Packets: []Packet{p}})] {
					t.Fatal(p)
				}
			}
		case 5:
			n = Drop(n, dice(70))
		case 6:
			if next, e := Dup(n, dice(70)); e == api.OK {
				n = next
			}
		}
		if !Sane(n) {
			t.Fatal(tell(n))
		}
	}
	if taken < 500 {
		t.Error(taken)
	}
}
