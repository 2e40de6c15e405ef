package tokens

import (
	"slices"
	"testing"

	"godwit/api"
)

// of is a table of entries.
func of(l ...Entry) Table { return Table{L: l} }

// same: are two tables the same?
func same(a, b Table) bool { return slices.Equal(a.L, b.L) }

// full has 32 Fenced tokens, 0 to 31.
func full() Table {
	t := Table{}
	for i := range 32 {
		t.L = append(t.L, Entry{i, 3, Fenced, 0})
	}
	return t
}

// odd may not be.
func odd() Table { return of(Entry{1, 1, 9, 0}) }

func TestSane(t *testing.T) {
	for k, x := range []struct {
		t  Table
		ok bool
	}{
		{of(), true}, {full(), true}, {of(append(full().L, Entry{99, 1, Open, 0})...), false},
		{of(Entry{0, 0, Open, 0}), true}, {of(Entry{api.MaxTs, 65535, Fenced, 0}), true}, {of(Entry{1, 1, Done, 1}), true}, {of(Entry{1, 1, Done, api.MaxTs}), true},
		{of(Entry{-1, 0, Open, 0}), false}, {of(Entry{api.MaxTs + 1, 0, Open, 0}), false}, {of(Entry{1, -1, Open, 0}), false}, {of(Entry{1, 65536, Open, 0}), false},
		{of(Entry{1, 1, Open, 1}), false}, {of(Entry{1, 1, Fenced, 1}), false}, {of(Entry{1, 1, Done, 0}), false}, {of(Entry{1, 1, Done, api.MaxTs + 1}), false}, {of(Entry{1, 65536, Done, 1}), false}, {of(Entry{-1, 1, Done, 1}), false},
		{of(Entry{1, 1, 0, 0}), false}, {of(Entry{1, 1, 4, 0}), false}, {of(Entry{1, 1, Open, 0}, Entry{2, 1, Open, 0}, Entry{1, 1, Done, 1}), false},
	} {
		if Sane(x.t) != x.ok {
			t.Error(k)
		}
	}
}

func TestFind(t *testing.T) {
	x := of(Entry{1, 2, Open, 0}, Entry{3, 4, Done, 5})
	if e, ok := Find(x, 3); !ok || e != (Entry{3, 4, Done, 5}) {
		t.Error(e, ok)
	}
	if e, ok := Find(x, 2); ok || e != (Entry{}) {
		t.Error(e, ok)
	}
}

// result is what one call is to answer.
type result struct {
	t            Table
	tok, attempt int
	want         Table
	ts           int
	e            api.Errno
}

// check holds a call against results.
func check(t *testing.T, call func(t Table, tok, attempt int) (Table, int, api.Errno), l []result) {
	t.Helper()
	for k, x := range l {
		was := slices.Clone(x.t.L)
		got, ts, e := call(x.t, x.tok, x.attempt)
		if !same(got, x.want) || ts != x.ts || e != x.e || !slices.Equal(was, x.t.L) {
			t.Error(k, got, ts, e)
		}
	}
}

func TestStart(t *testing.T) {
	three := of(Entry{1, 5, Open, 0}, Entry{2, 5, Fenced, 0}, Entry{3, 5, Done, 9})
	check(t, func(t Table, tok, attempt int) (Table, int, api.Errno) {
		next, e := Start(t, tok, attempt)
		return next, 0, e
	}, []result{
		{odd(), 1, 1, of(), 0, api.ErrArg}, {of(), -1, 1, of(), 0, api.ErrArg}, {of(), api.MaxTs + 1, 1, of(), 0, api.ErrArg}, {of(), 1, -1, of(), 0, api.ErrArg}, {full(), 1, 65536, of(), 0, api.ErrArg},
		{three, 3, 9, of(), 0, api.ErrState}, {three, 3, 1, of(), 0, api.ErrState}, {three, 1, 5, of(), 0, api.ErrFenced}, {three, 2, 5, of(), 0, api.ErrFenced}, {three, 2, 4, of(), 0, api.ErrFenced}, {full(), 99, 1, of(), 0, api.ErrBusy},
		{three, 1, 6, of(Entry{1, 6, Open, 0}, three.L[1], three.L[2]), 0, 0}, {three, 2, 6, of(three.L[0], Entry{2, 6, Open, 0}, three.L[2]), 0, 0}, {three, 9, 0, of(append(slices.Clone(three.L), Entry{9, 0, Open, 0})...), 0, 0},
		{of(full().L[1:]...), 0, 1, of(append(full().L[1:], Entry{0, 1, Open, 0})...), 0, 0},
	})
	if x, e := Start(full(), 7, 4); e != api.OK || x.L[7] != (Entry{7, 4, Open, 0}) {
		t.Error(x, e)
	}
}

func TestFinish(t *testing.T) {
	three := of(Entry{1, 5, Open, 0}, Entry{2, 5, Fenced, 0}, Entry{3, 5, Done, 9})
	check(t, func(t Table, tok, attempt int) (Table, int, api.Errno) {
		next, e := Finish(t, tok, attempt, 20)
		return next, 0, e
	}, []result{
		{odd(), 1, 1, of(), 0, api.ErrArg}, {three, -1, 1, of(), 0, api.ErrArg}, {three, 1, 65536, of(), 0, api.ErrArg},
		{three, 3, 5, of(), 0, api.ErrState}, {three, 1, 4, of(), 0, api.ErrFenced}, {three, 1, 6, of(), 0, api.ErrFenced}, {three, 2, 5, of(), 0, api.ErrFenced}, {three, 9, 0, of(), 0, api.ErrFenced},
		{three, 1, 5, of(Entry{1, 5, Done, 20}, three.L[1], three.L[2]), 0, 0},
	})
	for _, ts := range []int{0, -1, api.MaxTs + 1} {
		if x, e := Finish(three, 1, 5, ts); e != api.ErrArg || x.L != nil {
			t.Error(ts, e)
		}
	}
	if _, e := Finish(three, 1, 5, api.MaxTs); e != api.OK {
		t.Error(e)
	}
}

func TestFence(t *testing.T) {
	three := of(Entry{1, 5, Open, 0}, Entry{2, 5, Fenced, 0}, Entry{3, 5, Done, 9})
	check(t, Fence, []result{
		{odd(), 1, 1, of(), 0, api.ErrArg}, {three, -1, 1, of(), 0, api.ErrArg}, {three, 1, 65536, of(), 0, api.ErrArg}, {full(), 1, -1, of(), 0, api.ErrArg},
		{three, 3, 1, three, 9, 0}, {three, 3, 9, three, 9, 0},
		{three, 1, 3, of(Entry{1, 5, Fenced, 0}, three.L[1], three.L[2]), 0, 0}, {three, 1, 8, of(Entry{1, 8, Fenced, 0}, three.L[1], three.L[2]), 0, 0}, {three, 2, 8, of(three.L[0], Entry{2, 8, Fenced, 0}, three.L[2]), 0, 0}, {three, 2, 0, three, 0, 0},
		{three, 9, 4, of(append(slices.Clone(three.L), Entry{9, 4, Fenced, 0})...), 0, 0}, {full(), 99, 1, of(), 0, api.ErrBusy}, {full(), 31, 1, full(), 0, 0},
	})
}

func TestRelease(t *testing.T) {
	three := of(Entry{1, 5, Open, 0}, Entry{2, 5, Fenced, 0}, Entry{3, 5, Done, 9})
	check(t, func(t Table, tok, _ int) (Table, int, api.Errno) {
		next, e := Release(t, tok)
		return next, 0, e
	}, []result{
		{odd(), 1, 0, of(), 0, api.ErrArg}, {three, -1, 0, of(), 0, api.ErrArg}, {three, api.MaxTs + 1, 0, of(), 0, api.ErrArg}, {three, 9, 0, of(), 0, api.ErrName}, {three, 1, 0, of(), 0, api.ErrState},
		{three, 2, 0, of(three.L[0], three.L[2]), 0, 0}, {three, 3, 0, of(three.L[0], three.L[1]), 0, 0}, {of(three.L[2]), 3, 0, of(), 0, 0},
	})
}

func TestAtMostOneFinishIsOK(t *testing.T) {
	v := uint32(3)
	dice := func(n int) int {
		v = v*1664525 + 1013904223
		return int(v>>16) % n
	}
	finished := 0
	for range 500 {
		x := Table{}
		fenced, done := -1, 0
		for range 30 {
			attempt := dice(8)
			var next Table
			var e api.Errno
			switch dice(3) {
			case 0:
				next, e = Start(x, 7, attempt)
			case 1:
				if next, e = Finish(x, 7, attempt, 1+dice(9)); e == api.OK {
					done++
					if attempt <= fenced {
						t.Fatal("a fenced one is done")
					}
				}
			case 2:
				var ts int
				next, ts, e = Fence(x, 7, attempt)
				if ts > 0 != (done > 0) {
					t.Fatal("told otherwise", ts, done)
				}
				if ts == 0 {
					fenced = max(fenced, attempt)
				}
			}
			if e == api.OK {
				x = next
			}
			if done > 1 || !Sane(x) {
				t.Fatal(done, x)
			}
		}
		finished += done
	}
	if finished < 50 {
		t.Error(finished)
	}
}
