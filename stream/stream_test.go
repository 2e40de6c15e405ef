package stream

import (
	"bytes"
	"testing"

	"godwit/api"
	"godwit/frame"
)

// frames are payloads' frames, one behind the other.
func frames(l ...string) []byte {
	var b []byte
	for _, p := range l {
		b, _ = frame.Put(b, []byte(p))
	}
	return b
}

// turned is a frame whose last byte is another one.
func turned(p string) []byte {
	b := frames(p)
	b[len(b)-1] ^= 8
	return b
}

func TestSane(t *testing.T) {
	f := frames("abc")
	for k, x := range []struct {
		s  Stream
		ok bool
	}{
		{Stream{}, true}, {Stream{Buf: []byte{}}, true}, {Stream{Buf: f[:1]}, true}, {Stream{Buf: f[:8]}, true},
		{Stream{Buf: f}, false}, {Stream{Buf: append(frames("a"), 1)}, false}, {Stream{Buf: turned("a")}, false}, {Stream{Buf: []byte{255, 255}}, false},
		{Stream{Dead: api.ErrSum}, true}, {Stream{Dead: api.ErrSize}, true}, {Stream{Dead: api.ErrShort}, false}, {Stream{Dead: -1}, false},
		{Stream{Dead: api.ErrSum, Buf: []byte{1}}, false}, {Stream{Dead: api.ErrClosed}, false},
	} {
		if Sane(x.s) != x.ok {
			t.Error(k)
		}
	}
}

func TestFeedRefuses(t *testing.T) {
	if s, l, e := Feed(Stream{Dead: api.ErrName}, frames("a")); e != api.ErrArg || l != nil || s.Buf != nil || s.Dead != api.OK {
		t.Error(s, l, e)
	}
	for _, d := range []api.Errno{api.ErrSum, api.ErrSize} {
		if s, l, e := Feed(Stream{Dead: d}, frames("a")); e != api.ErrClosed || l != nil || len(s.Buf) != 0 || s.Dead != d {
			t.Error(s, l, e)
		}
	}
}

func TestFeedTellsPayloadsBesideItsEnd(t *testing.T) {
	for k, x := range []struct {
		b []byte
		n int
		s Stream
		e api.Errno
	}{
		{nil, 0, Stream{}, api.OK},
		{frames("a", "", "b"), 3, Stream{}, api.OK},
		{append(frames("a"), 9, 0, 1), 1, Stream{Buf: []byte{9, 0, 1}}, api.OK},
		{append(frames("a"), 9, 9, 1), 1, Stream{Dead: api.ErrSize}, api.ErrSize},
		{append(frames("a", "b"), append(turned("c"), frames("d")...)...), 2, Stream{Dead: api.ErrSum}, api.ErrSum},
	} {
		s, l, e := Feed(Stream{}, x.b)
		if len(l) != x.n || e != x.e || !bytes.Equal(s.Buf, x.s.Buf) || s.Dead != x.s.Dead || !Sane(s) {
			t.Error(k, s, l, e)
		}
		if x.n > 0 && string(l[0]) != "a" {
			t.Error(k, l)
		}
	}
}

func TestFeedLeavesItsInputAlone(t *testing.T) {
	room := append(frames("abc")[:4], 1, 1, 1, 1, 1, 1)
	was := bytes.Clone(room)
	Feed(Stream{Buf: room[:4]}, frames("abc")[4:])
	if !bytes.Equal(room, was) {
		t.Error("changed")
	}
}

func TestWants(t *testing.T) {
	f := frames("abc")
	for n, want := range []int{6, 5, 4, 3, 2, 1, 3, 2, 1} {
		if got := Wants(Stream{Buf: f[:n]}); got != want {
			t.Error(n, got)
		}
	}
	if Wants(Stream{Dead: api.ErrSum}) != 0 || Wants(Stream{Buf: f}) != 0 || Wants(Stream{Dead: 99}) != 0 {
		t.Error("none")
	}
}

func TestHoweverBytesAreCut(t *testing.T) {
	for k, all := range [][]byte{frames("abc", "", "defg"), append(frames("abc", "x"), turned("y")...), append(frames("abc"), 1, 2, 3), append(frames("abc"), 1, 0, 3)} {
		whole, want, _ := Feed(Stream{}, all)
		for i := 0; i <= len(all); i++ {
			for j := i; j <= len(all); j++ {
				s, a, _ := Feed(Stream{}, all[:i])
				s, b, _ := Feed(s, all[i:j])
				s, c, _ := Feed(s, all[j:])
				got := append(append(a, b...), c...)
				if !bytes.Equal(bytes.Join(got, []byte("|")), bytes.Join(want, []byte("|"))) || s.Dead != whole.Dead || !bytes.Equal(s.Buf, whole.Buf) {
					t.Fatal(k, i, j, got, s)
				}
			}
		}
	}
}

func TestAByteAtATime(t *testing.T) {
	f := frames("payload")
	s := Stream{}
	for i := range f {
		var l [][]byte
		var e api.Errno
		s, l, e = Feed(s, f[i:i+1])
		if e != api.OK || len(l) > 0 != (i == len(f)-1) {
			t.Fatal(i, l, e)
		}
	}
}
