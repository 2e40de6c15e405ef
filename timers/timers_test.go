package timers

import (
	"slices"
	"testing"

	"godwit/api"
)

func same(a, b Table) bool { return a.Now == b.Now && slices.Equal(a.L, b.L) }

// of is a table of a time, with timers.
func of(now int, l ...Timer) Table { return Table{Now: now, L: l} }

// full has 64 timers, of the IDs 0 to 63, at 100.
func full() Table {
	t := Table{}
	for i := range 64 {
		t.L = append(t.L, Timer{i, 100})
	}
	return t
}

func TestSane(t *testing.T) {
	for k, x := range []struct {
		t  Table
		ok bool
	}{
		{of(0), true}, {of(api.MaxTs), true}, {of(-1), false}, {of(api.MaxTs + 1), false}, {full(), true}, {of(0, append(full().L, Timer{64, 100})...), false},
		{of(3, Timer{0, 4}), true}, {of(3, Timer{0, 3}), false}, {of(3, Timer{-1, 4}), false}, {of(3, Timer{1, 9}, Timer{2, 4}), true}, {of(3, Timer{2, 9}, Timer{1, 4}), false}, {of(3, Timer{1, 9}, Timer{1, 9}), false},
		{of(3, Timer{1, 1 << 41}), true}, {of(3, Timer{1, 1<<41 + 1}), false},
	} {
		if Sane(x.t) != x.ok {
			t.Error(k)
		}
	}
}

func TestSet(t *testing.T) {
	base := of(10, Timer{2, 15}, Timer{5, 12})
	for k, x := range []struct {
		t         Table
		id, after int
		want      Table
		e         api.Errno
	}{
		{of(-1), 1, 1, Table{}, api.ErrArg}, {base, -1, 1, Table{}, api.ErrArg}, {base, 1, 0, Table{}, api.ErrArg}, {base, 1, -9, Table{}, api.ErrArg}, {base, 1, api.MaxTs + 1, Table{}, api.ErrArg}, {full(), 99, 0, Table{}, api.ErrArg},
		{full(), 99, 1, Table{}, api.ErrBusy},
		{base, 3, 7, of(10, Timer{2, 15}, Timer{3, 17}, Timer{5, 12}), 0}, {base, 5, 1, of(10, Timer{2, 15}, Timer{5, 11}), 0}, {base, 0, 1, of(10, Timer{0, 11}, Timer{2, 15}, Timer{5, 12}), 0}, {base, 9, api.MaxTs, of(10, Timer{2, 15}, Timer{5, 12}, Timer{9, 10 + api.MaxTs}), 0},
		{of(api.MaxTs), 1, api.MaxTs, of(api.MaxTs, Timer{1, 1 << 41}), 0},
	} {
		if got, e := Set(x.t, x.id, x.after); !same(got, x.want) || e != x.e || e == api.OK && !Sane(got) {
			t.Error(k, got, e)
		}
	}
	if got, e := Set(full(), 7, 5); e != api.OK || got.L[7] != (Timer{7, 5}) || len(got.L) != 64 {
		t.Error("of a full one, one that is there", e)
	}
	if !same(base, of(10, Timer{2, 15}, Timer{5, 12})) {
		t.Error("changed")
	}
}

func TestClear(t *testing.T) {
	base := of(10, Timer{2, 15}, Timer{5, 12})
	if got := Clear(base, 2); !same(got, of(10, Timer{5, 12})) {
		t.Error(got)
	}
	if got := Clear(base, 3); !same(got, base) {
		t.Error(got)
	}
	if got := Clear(Table{}, -1); !same(got, Table{}) {
		t.Error(got)
	}
}

func TestTick(t *testing.T) {
	base := of(10, Timer{1, 20}, Timer{2, 15}, Timer{5, 12}, Timer{7, 15})
	for k, x := range []struct {
		t    Table
		n    int
		want Table
		due  []int
		e    api.Errno
	}{
		{of(-1), 1, Table{}, nil, api.ErrArg}, {base, -1, Table{}, nil, api.ErrArg}, {base, api.MaxTs, Table{}, nil, api.ErrLimit}, {base, api.MaxTs - 9, Table{}, nil, api.ErrLimit}, {base, 1<<63 - 1, Table{}, nil, api.ErrLimit},
		{base, 0, base, nil, 0}, {base, 1, of(11, base.L...), nil, 0}, {base, 2, of(12, Timer{1, 20}, Timer{2, 15}, Timer{7, 15}), []int{5}, 0}, {base, 5, of(15, Timer{1, 20}), []int{5, 2, 7}, 0}, {base, 9, of(19, Timer{1, 20}), []int{5, 2, 7}, 0},
		{base, api.MaxTs - 10, of(api.MaxTs), []int{5, 2, 7, 1}, 0}, {Table{}, 3, of(3), nil, 0},
	} {
		got, due, e := Tick(x.t, x.n)
		if !same(got, x.want) || !slices.Equal(due, x.due) || e != x.e || e == api.OK && !Sane(got) {
			t.Error(k, got, due, e)
		}
	}
}

func TestNextAndLeft(t *testing.T) {
	base := of(10, Timer{1, 20}, Timer{2, 15})
	if n, ok := Next(base); n != 5 || !ok {
		t.Error(n, ok)
	}
	for id, want := range map[int]int{1: 10, 2: 5, 3: 0, -1: 0} {
		if n, ok := Left(base, id); n != want || ok != (want > 0) {
			t.Error(id, n, ok)
		}
	}
	bad := of(15, base.L...)
	if n, ok := Next(bad); n != 0 || ok {
		t.Error("not sane", n, ok)
	}
	if n, ok := Left(bad, 1); n != 0 || ok {
		t.Error("not sane", n, ok)
	}
	if n, ok := Next(Table{}); n != 0 || ok {
		t.Error("none", n, ok)
	}
}

func TestTicksOneBehindTheOtherAreOne(t *testing.T) {
	base := Table{}
	for i := range 12 {
		base, _ = Set(base, i, 1+i*7%10)
	}
	for total := range 12 {
		whole, want, _ := Tick(base, total)
		for first := 0; first <= total; first++ {
			x, a, _ := Tick(base, first)
			x, b, _ := Tick(x, total-first)
			if !same(x, whole) || !slices.Equal(append(a, b...), want) {
				t.Error(total, first)
			}
		}
	}
}
