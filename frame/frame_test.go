package frame

import (
	"bytes"
	"hash/crc32"
	"testing"

	"godwit/api"
)

// laid is a frame made by the document's words alone.
func laid(payload []byte) []byte {
	b := []byte{byte(len(payload)), byte(len(payload) >> 8)}
	s := crc32.ChecksumIEEE(append(bytes.Clone(b), payload...))
	b = append(b, byte(s), byte(s>>8), byte(s>>16), byte(s>>24))
	return append(b, payload...)
}

func TestPutLaysAFrameBehind(t *testing.T) {
	for _, n := range []int{0, 1, 2, 255, 256, 511, 512} {
		p := bytes.Repeat([]byte{7, 1, 9}, 200)[:n]
		b, e := Put([]byte("ab"), p)
		if e != api.OK || !bytes.Equal(b, append([]byte("ab"), laid(p)...)) {
			t.Error(n, e)
		}
		if Len(p) != n+6 {
			t.Error("len", n, Len(p))
		}
	}
	if b, e := Put([]byte("ab"), make([]byte, 513)); e != api.ErrSize || b != nil || Len(make([]byte, 513)) != 0 {
		t.Error("513", e, b)
	}
	room := []byte{1, 2, 3, 4, 5, 6, 7, 8, 9}
	if Put(room[:1], nil); !bytes.Equal(room, []byte{1, 2, 3, 4, 5, 6, 7, 8, 9}) {
		t.Error("spare room changed")
	}
}

func TestReadTellsTheFirstError(t *testing.T) {
	f := laid([]byte("xyz"))
	bad := bytes.Clone(f)
	bad[3] ^= 1
	for k, x := range []struct {
		b  []byte
		at int
		e  api.Errno
	}{
		{f, -1, api.ErrArg}, {f, 10, api.ErrArg}, {nil, 1, api.ErrArg}, {f, 1 << 62, api.ErrArg},
		{nil, 0, api.ErrShort}, {f, 9, api.ErrShort}, {f[:1], 0, api.ErrShort}, {f, 8, api.ErrShort},
		{[]byte{1, 2}, 0, api.ErrSize}, {[]byte{255, 255}, 0, api.ErrSize}, {[]byte{0, 2}, 0, api.ErrShort},
		{f[:2], 0, api.ErrShort}, {f[:5], 0, api.ErrShort}, {f[:8], 0, api.ErrShort}, {bad, 0, api.ErrSum}, {bad[:8], 0, api.ErrShort},
	} {
		if p, at, e := Read(x.b, x.at); e != x.e || p != nil || at != 0 {
			t.Error(k, p, at, e)
		}
	}
}

func TestReadIsNewMemory(t *testing.T) {
	b := append([]byte{1, 2}, laid([]byte("xyz"))...)
	p, at, e := Read(b, 2)
	if string(p) != "xyz" || at != 11 || e != api.OK {
		t.Fatal(p, at, e)
	}
	p[0] = 0
	if b[8] != 'x' {
		t.Error("shared")
	}
}

func TestAllGoesOnAsFarAsItMay(t *testing.T) {
	one, two := laid([]byte("a")), laid(nil)
	bad := laid([]byte("b"))
	bad[6]++
	both := append(bytes.Clone(one), two...)
	for k, x := range []struct {
		b     []byte
		n, at int
		e     api.Errno
	}{
		{nil, 0, 0, api.OK},
		{both, 2, 13, api.OK},
		{append(bytes.Clone(both), 0), 2, 13, api.ErrShort},
		{append(bytes.Clone(both), 0, 3), 2, 13, api.ErrSize},
		{append(bytes.Clone(one), bad...), 1, 7, api.ErrSum},
		{append(bytes.Clone(bad), one...), 0, 0, api.ErrSum},
	} {
		l, at, e := All(x.b)
		if len(l) != x.n || at != x.at || e != x.e {
			t.Error(k, l, at, e)
		}
		if x.n > 0 && string(l[0]) != "a" {
			t.Error(k, l)
		}
	}
}

func TestWhatIsPutIsRead(t *testing.T) {
	for n := 0; n <= 512; n += 64 {
		p := bytes.Repeat([]byte{3}, n)
		b, _ := Put(nil, p)
		if q, at, e := Read(b, 0); e != api.OK || at != len(b) || !bytes.Equal(p, q) {
			t.Error(n, e)
		}
	}
}

func TestTurnedBitsAreNoFrame(t *testing.T) {
	f := laid([]byte("some payload"))
	turn := func(from, to int) {
		for start := from * 8; start < to*8; start++ {
			for n := 1; n <= 32 && start+n <= to*8; n++ {
				b := bytes.Clone(f)
				for i := start; i < start+n; i++ {
					b[i/8] ^= 1 << (i % 8)
				}
				if _, _, e := Read(b, 0); e != api.ErrSum {
					t.Fatal(start, n, e)
				}
			}
		}
	}
	turn(2, 6)
	turn(6, len(f))
}
