package enc

import (
	"bytes"
	"slices"
	"testing"

	"godwit/api"
)

func TestULaysTheLowestFirst(t *testing.T) {
	for _, x := range []struct {
		v    uint64
		n    int
		want []byte
	}{
		{0x1234, 2, []byte{0x34, 0x12}},
		{0x1234, 1, []byte{0x34}},
		{0x0102030405060708, 8, []byte{8, 7, 6, 5, 4, 3, 2, 1}},
		{0x0102030405060708, 99, []byte{8, 7, 6, 5, 4, 3, 2, 1}},
		{5, 0, nil},
		{5, -7, nil},
		{0, 3, []byte{0, 0, 0}},
	} {
		if got := U([]byte("x"), x.v, x.n); !bytes.Equal(got, append([]byte("x"), x.want...)) {
			t.Errorf("U(x, %x, %d) = %v", x.v, x.n, got)
		}
	}
}

func TestListLaysItsLength(t *testing.T) {
	if got := List(nil, nil); !bytes.Equal(got, []byte{0, 0}) {
		t.Error(got)
	}
	if got := List([]byte{7}, []byte{1, 2, 3}); !bytes.Equal(got, []byte{7, 3, 0, 1, 2, 3}) {
		t.Error(got)
	}
	long := bytes.Repeat([]byte{1, 2, 3}, 30000)
	got := List(nil, long)
	if len(got) != 2+65535 || got[0] != 255 || got[1] != 255 || !bytes.Equal(got[2:], long[:65535]) {
		t.Error(len(got))
	}
	if got := List(nil, long[:65535]); len(got) != 2+65535 {
		t.Error(len(got))
	}
}

func TestLayingLeavesSpareRoomAlone(t *testing.T) {
	room := []byte{1, 2, 3, 4, 5, 6, 7, 8}
	a := U(room[:2], 9, 1)
	b := List(room[:2], []byte{9, 9})
	if !bytes.Equal(room, []byte{1, 2, 3, 4, 5, 6, 7, 8}) || a[2] != 9 || b[2] != 2 {
		t.Error(room, a, b)
	}
}

func TestReaderKeepsItsFirstError(t *testing.T) {
	r := New([]byte{1, 2, 3})
	if r.Err() != api.OK || r.At() != 0 || r.End() != api.ErrForm || r.Err() != api.OK {
		t.Error("new", r.Err(), r.At())
	}
	r.Fail(api.OK)
	if r.Err() != api.OK || r.U(1) != 1 {
		t.Error("Fail of OK is nothing")
	}
	r.Fail(api.ErrBusy)
	r.Fail(api.ErrName)
	if r.U(1) != 0 || r.List(9) != nil || r.Flag() || r.U(0) != 0 || r.At() != 1 || r.Err() != api.ErrBusy || r.End() != api.ErrBusy {
		t.Error(r.Err(), r.At())
	}
}

func TestReadersOfNothing(t *testing.T) {
	var none *Reader
	none.Fail(api.ErrBusy)
	if none.U(1) != 0 || len(none.List(3)) != 0 || none.Flag() || none.At() != 0 || none.Err() != api.ErrArg || none.End() != api.ErrArg {
		t.Error("nil")
	}
	zero := new(Reader)
	if zero.Err() != api.OK || zero.End() != api.OK || zero.At() != 0 || zero.U(1) != 0 || zero.Err() != api.ErrShort {
		t.Error("zero", zero.Err())
	}
	empty := New(nil)
	if empty.End() != api.OK || len(empty.List(3)) != 0 || empty.Err() != api.ErrShort || empty.At() != 0 {
		t.Error("empty", empty.Err())
	}
}

func TestReaderU(t *testing.T) {
	b := []byte{1, 2, 3, 4, 5, 6, 7, 8, 9}
	for n := 1; n <= 8; n++ {
		r := New(b)
		want := uint64(0)
		for i := n; i > 0; i-- {
			want = want<<8 | uint64(i)
		}
		if got := r.U(n); got != want || r.At() != n || r.Err() != api.OK {
			t.Error(n, got, r.At(), r.Err())
		}
	}
	for _, n := range []int{0, -1, 9, 1 << 40} {
		r := New(nil)
		if r.U(n) != 0 || r.Err() != api.ErrArg || r.At() != 0 {
			t.Error(n, r.Err())
		}
	}
	r := New(b[:3])
	if r.U(4) != 0 || r.Err() != api.ErrShort || r.At() != 0 {
		t.Error(r.Err(), r.At())
	}
}

func TestReaderList(t *testing.T) {
	b := []byte{2, 0, 8, 9, 7}
	r := New(b)
	got := r.List(2)
	if !bytes.Equal(got, []byte{8, 9}) || r.At() != 4 || r.End() != api.ErrForm {
		t.Error(got, r.At())
	}
	got[0] = 1
	if b[2] != 8 {
		t.Error("not new memory")
	}
	for k, x := range []struct {
		b    []byte
		most int
		e    api.Errno
		at   int
	}{
		{[]byte{2}, 5, api.ErrShort, 0},
		{[]byte{3, 0, 1, 2}, 5, api.ErrShort, 2},
		{[]byte{3, 0, 1, 2}, 2, api.ErrSize, 2},
		{[]byte{3, 0, 1, 2, 3}, 2, api.ErrSize, 2},
		{[]byte{0, 0}, -1, api.ErrSize, 2},
		{[]byte{0, 0}, 0, api.OK, 2},
	} {
		r := New(x.b)
		if got := r.List(x.most); len(got) != 0 || r.Err() != x.e || r.At() != x.at {
			t.Error(k, got, r.Err(), r.At())
		}
	}
}

func TestReaderFlag(t *testing.T) {
	r := New([]byte{0, 1, 2, 1})
	if r.Flag() || !r.Flag() || r.Err() != api.OK {
		t.Error("0 and 1")
	}
	if r.Flag() || r.Err() != api.ErrForm || r.At() != 3 || r.Flag() {
		t.Error("above 1", r.Err(), r.At())
	}
}

func TestWhatIsLaidIsRead(t *testing.T) {
	for n := 1; n <= 8; n++ {
		for _, v := range []uint64{0, 1, 0x80, 0xFFEEDDCCBBAA9988, 1<<64 - 1} {
			for l := 0; l < 40; l += 13 {
				list := slices.Repeat([]byte{byte(v)}, l)
				r := New(List(U(nil, v, n), list))
				want := v
				if n < 8 {
					want = v & (1<<(8*n) - 1)
				}
				if r.U(n) != want || !bytes.Equal(r.List(40), list) || r.End() != api.OK {
					t.Error(n, v, l, r.Err())
				}
			}
		}
	}
}
