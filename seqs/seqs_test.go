package seqs

import (
	"slices"
	"testing"

	"godwit/api"
)

const all = api.MaxSeq + 1

func TestSane(t *testing.T) {
	for k, x := range []struct {
		w  Window
		ok bool
	}{
		{Window{}, true}, {Window{5, 2}, true}, {Window{5, 1}, false}, {Window{5, 3}, false}, {Window{-1, 0}, false}, {Window{all, 0}, true}, {Window{all + 1, 0}, false}, {Window{all, 2}, false},
		{Window{api.MaxSeq, 2}, false}, {Window{api.MaxSeq - 1, 2}, true}, {Window{api.MaxSeq - 1, 4}, false}, {Window{all - 64, 1 << 63}, true}, {Window{all - 63, 1 << 63}, false}, {Window{0, 1<<64 - 2}, true},
	} {
		if Sane(x.w) != x.ok {
			t.Error(k)
		}
	}
}

func TestAccept(t *testing.T) {
	for k, x := range []struct {
		w    Window
		seq  int
		want Window
		e    api.Errno
	}{
		{Window{5, 1}, 9, Window{}, api.ErrArg}, {Window{}, -1, Window{}, api.ErrArg}, {Window{}, all, Window{}, api.ErrArg}, {Window{all, 0}, all, Window{}, api.ErrArg},
		{Window{5, 4}, 4, Window{}, api.ErrState}, {Window{5, 4}, 0, Window{}, api.ErrState}, {Window{5, 4}, 7, Window{}, api.ErrState}, {Window{all, 0}, api.MaxSeq, Window{}, api.ErrState},
		{Window{5, 4}, 69, Window{}, api.ErrBusy}, {Window{5, 4}, api.MaxSeq, Window{}, api.ErrBusy},
		{Window{}, 0, Window{1, 0}, 0}, {Window{}, 1, Window{0, 2}, 0}, {Window{0, 2}, 0, Window{2, 0}, 0}, {Window{5, 4}, 5, Window{6, 2}, 0}, {Window{5, 4}, 6, Window{5, 6}, 0}, {Window{5, 6}, 5, Window{8, 0}, 0},
		{Window{5, 4}, 68, Window{5, 1<<63 + 4}, 0}, {Window{5, 1<<64 - 2}, 5, Window{69, 0}, 0}, {Window{api.MaxSeq, 0}, api.MaxSeq, Window{all, 0}, 0},
	} {
		if got, e := Accept(x.w, x.seq); got != x.want || e != x.e {
			t.Error(k, got, e)
		}
	}
}

func TestSeen(t *testing.T) {
	w := Window{5, 4 + 1<<63}
	for seq, want := range map[int]bool{0: true, 4: true, 5: false, 6: false, 7: true, 8: false, 67: false, 68: true, 69: false, api.MaxSeq: false, all: false, -1: false} {
		if Seen(w, seq) != want {
			t.Error(seq)
		}
	}
	if Seen(Window{5, 1}, 0) || !Seen(Window{all, 0}, api.MaxSeq) || Seen(Window{all, 0}, all) {
		t.Error("ends")
	}
}

func TestMissingAndFull(t *testing.T) {
	w := Window{5, 4}
	for most, want := range map[int][]int{-1: nil, 0: nil, 1: {5}, 3: {5, 6, 8}} {
		if got := Missing(w, most); !slices.Equal(got, want) {
			t.Error(most, got)
		}
	}
	if got := Missing(w, 1<<62); len(got) != 63 || got[62] != 68 {
		t.Error(got)
	}
	if got := Missing(Window{all - 3, 2}, 9); !slices.Equal(got, []int{all - 3, all - 1}) {
		t.Error(got)
	}
	if Missing(Window{5, 1}, 9) != nil || len(Missing(Window{all, 0}, 9)) != 0 {
		t.Error("none")
	}
	if Full(Window{}) || Full(Window{api.MaxSeq, 0}) || !Full(Window{all, 0}) || Full(Window{all, 2}) {
		t.Error("full")
	}
}

func TestEachNumberIsAcceptedOnce(t *testing.T) {
	for _, base := range []int{0, 1000, all - 150} {
		w := Window{Base: base}
		seen := map[int]bool{}
		v := uint32(9)
		for range 3000 {
			v = v*1664525 + 1013904223
			seq := base + int(v>>16)%150
			next, e := Accept(w, seq)
			if (e == api.ErrState) != seen[seq] || e == api.OK && seen[seq] || Seen(w, seq) != seen[seq] {
				t.Fatal(seq, e)
			}
			if e == api.OK {
				w = next
				seen[seq] = true
			}
			if !Sane(w) {
				t.Fatal(w)
			}
		}
		if len(seen) != 150 || w.Base != base+150 {
			t.Error(len(seen), w)
		}
	}
}
