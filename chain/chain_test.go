package chain

import (
	"bytes"
	"testing"

	"godwit/api"
)

// of is a chain of versions of some times; a negative one is a Del.
func of(ts ...int) Chain {
	c := Chain{}
	for _, x := range ts {
		if x < 0 {
			c.L = append(c.L, Ver{Ts: -x, Del: true})
		} else {
			c.L = append(c.L, Ver{Ts: x, Val: []byte{byte(x)}})
		}
	}
	return c
}

func same(a, b Chain) bool {
	if len(a.L) != len(b.L) {
		return false
	}
	for i, v := range a.L {
		if w := b.L[i]; v.Ts != w.Ts || v.Del != w.Del || !bytes.Equal(v.Val, w.Val) {
			return false
		}
	}
	return true
}

func TestSane(t *testing.T) {
	long := make([]byte, 33)
	for k, x := range []struct {
		c  Chain
		ok bool
	}{
		{Chain{}, true}, {of(1), true}, {of(3, -7, 9), true}, {of(api.MaxTs), true},
		{of(3, 3), false}, {of(7, 3), false}, {of(0), false}, {Chain{L: []Ver{{Ts: -1}}}, false}, {of(api.MaxTs + 1), false},
		{Chain{L: []Ver{{Ts: 1, Val: long[:32]}}}, true}, {Chain{L: []Ver{{Ts: 1, Val: long}}}, false}, {Chain{L: []Ver{{Ts: 1, Val: long[:1], Del: true}}}, false}, {Chain{L: []Ver{{Ts: 1, Val: []byte{}, Del: true}}}, true},
	} {
		if Sane(x.c) != x.ok {
			t.Error(k)
		}
	}
}

func TestPush(t *testing.T) {
	c, e := Push(of(3), Ver{Ts: 7, Del: true})
	if e != api.OK || !same(c, of(3, -7)) {
		t.Error(c, e)
	}
	for k, x := range []struct {
		c Chain
		v Ver
		e api.Errno
	}{
		{of(3, 3), Ver{Ts: 9}, api.ErrArg}, {of(3), Ver{Ts: 0}, api.ErrArg}, {of(3), Ver{Ts: api.MaxTs + 1}, api.ErrArg},
		{of(3), Ver{Ts: 2, Val: make([]byte, 33)}, api.ErrArg}, {of(3), Ver{Ts: 2, Val: []byte{1}, Del: true}, api.ErrArg},
		{of(3), Ver{Ts: 3}, api.ErrState}, {of(3), Ver{Ts: 1}, api.ErrState},
	} {
		if c, e := Push(x.c, x.v); e != x.e || len(c.L) != 0 {
			t.Error(k, c, e)
		}
	}
	room := of(1, 2, 9)
	if Push(Chain{L: room.L[:2]}, Ver{Ts: 5}); !same(room, of(1, 2, 9)) {
		t.Error("spare room changed")
	}
}

func TestLast(t *testing.T) {
	if Last(Chain{}) != 0 || Last(of(3)) != 3 || Last(of(3, -7)) != 7 {
		t.Error("last")
	}
}

func TestAtAndValue(t *testing.T) {
	c := of(3, -7, 9)
	for snap, want := range []int{0, 0, 0, 3, 3, 3, 3, 7, 7, 9, 9} {
		v, ok := At(c, snap)
		if ok != (want > 0) || v.Ts != want {
			t.Error(snap, v, ok)
		}
		b, ok := Value(c, snap)
		if ok != (want == 3 || want == 9) || ok && !bytes.Equal(b, []byte{byte(want)}) || !ok && b != nil {
			t.Error(snap, b, ok)
		}
	}
	if _, ok := At(c, -1<<62); ok {
		t.Error("long ago")
	}
	if v, ok := At(c, 1<<62); !ok || v.Ts != 9 {
		t.Error("much later")
	}
}

func TestSince(t *testing.T) {
	c := of(3, -7, 9)
	for ts, want := range map[int]Chain{-5: c, 2: c, 3: of(-7, 9), 8: of(9), 9: {}, 1 << 60: {}} {
		if got := Since(c, ts); !same(Chain{L: got}, want) {
			t.Error(ts, got)
		}
	}
	got := Since(c, 0)
	got[0].Val[0] = 99
	got[1].Ts = 99
	if !same(c, of(3, -7, 9)) {
		t.Error("shared")
	}
}

func TestVacuum(t *testing.T) {
	for k, x := range []struct {
		c      Chain
		oldest int
		want   Chain
	}{
		{of(3, 5, 9), 2, of(3, 5, 9)}, {of(3, 5, 9), 3, of(3, 5, 9)}, {of(3, 5, 9), 6, of(5, 9)}, {of(3, 5, 9), 9, of(9)}, {of(3, 5, 9), 1 << 60, of(9)}, {of(3, 5, 9), -1, of(3, 5, 9)},
		{of(3, -5, 9), 4, of(3, -5, 9)}, {of(3, -5, 9), 5, of(9)}, {of(3, -5), 9, of()}, {of(-3, 5), 2, of(-3, 5)}, {of(-3, -5), 3, of(-5)}, {of(-3, -5, 6), 4, of(-5, 6)},
		{of(5, 3), 9, of(5, 3)}, {Chain{}, 3, Chain{}},
	} {
		if got := Vacuum(x.c, x.oldest); !same(got, x.want) {
			t.Error(k, got)
		}
	}
}

func TestVacuumChangesNothingThatIsSeenLater(t *testing.T) {
	for kinds := range 32 {
		c := Chain{}
		for i := range 5 {
			c.L = append(c.L, Ver{Ts: 2 * (i + 1), Del: kinds>>i&1 == 1})
			if !c.L[i].Del {
				c.L[i].Val = []byte{byte(i)}
			}
		}
		for oldest := -1; oldest < 13; oldest++ {
			v := Vacuum(c, oldest)
			if !Sane(v) {
				t.Fatal(v)
			}
			for snap := oldest; snap < 14; snap++ {
				a, aok := Value(c, snap)
				b, bok := Value(v, snap)
				if aok != bok || !bytes.Equal(a, b) {
					t.Fatal(kinds, oldest, snap)
				}
			}
		}
	}
}
