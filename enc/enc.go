// Package enc is layer 1, numbers and lists in bytes: see shared/doc/01-enc.md.
package enc

import (
	"slices"

	"godwit/api"
)

// maxList is how many bytes a list in bytes has at most: as many as two bytes tell.
const maxList = 65535

// U lays a number: its n lowest bytes, the lowest first.
func U(b []byte, v uint64, n int) []byte {
	n = max(0, min(n, 8))
	laid := make([]byte, n)
	for i := range laid {
		laid[i] = byte(v >> (8 * i))
	}
	return slices.Concat(b, laid)
}

// List lays how many bytes a list has, and these.
func List(b []byte, l []byte) []byte {
	l = l[:min(len(l), maxList)]
	return slices.Concat(U(b, uint64(len(l)), 2), l)
}

// Reader reads bytes. Its place is known to a closure alone, so that nothing but move changes it.
type Reader struct {
	move func(n int) (at int, rest []byte)
	err  api.Errno
}

// New is a reader of bytes.
func New(b []byte) *Reader {
	at := 0
	return &Reader{move: func(n int) (int, []byte) {
		at += n
		return at, b[at:]
	}}
}

// place is how many bytes were read, and those that are left.
func (r *Reader) place() (int, []byte) {
	if r == nil || r.move == nil {
		return 0, nil
	}
	return r.move(0)
}

// take reads n bytes, or fails if fewer are left.
func (r *Reader) take(n int) []byte {
	_, rest := r.place()
	if len(rest) < n {
		r.Fail(api.ErrShort)
		return nil
	}
	if n > 0 {
		r.move(n)
	}
	return rest[:n]
}

// U is the next number, of n bytes.
func (r *Reader) U(n int) uint64 {
	if r.Err() != api.OK {
		return 0
	}
	if n < 1 || n > 8 {
		r.Fail(api.ErrArg)
		return 0
	}
	v := uint64(0)
	for i, x := range r.take(n) {
		v |= uint64(x) << (8 * i)
	}
	return v
}

// List is the next list, of at most so many bytes.
func (r *Reader) List(most int) []byte {
	n := int(r.U(2))
	if r.Err() != api.OK {
		return nil
	}
	if n > most {
		r.Fail(api.ErrSize)
		return nil
	}
	return slices.Clone(r.take(n))
}

// Flag is the next flag.
func (r *Reader) Flag() bool {
	v := r.U(1)
	if v > 1 {
		r.Fail(api.ErrForm)
	}
	return v == 1
}

// Fail lets there be an error, if there is none yet.
func (r *Reader) Fail(e api.Errno) {
	if r != nil && r.err == api.OK {
		r.err = e
	}
}

// Err is the first error.
func (r *Reader) Err() api.Errno {
	if r == nil {
		return api.ErrArg
	}
	return r.err
}

// At is how many bytes were read.
func (r *Reader) At() int {
	at, _ := r.place()
	return at
}

// End is the error, also of bytes that are left.
func (r *Reader) End() api.Errno {
	if e := r.Err(); e != api.OK {
		return e
	}
	if _, rest := r.place(); len(rest) > 0 {
		return api.ErrForm
	}
	return api.OK
}
