// Package code: bytes. See doc/01-code.md.
package code

import (
	"ramekin/api"
)

// Bytes that a number takes, whole or its lowest eight bits alone.
const (
	wide   = 8
	narrow = 1
)

// Reader reads; its first error stays.
type Reader struct {
	rest tape[byte]
	err  api.Errno
}

// New answers a Reader of b's bytes as they are now.
func New(b []byte) *Reader { return &Reader{rest: tapeOf(b, 0)} }

// Byte reads a number of 0 to 255.
func (r *Reader) Byte() int { return r.number(narrow) }

// Int reads a number of 64 bits.
func (r *Reader) Int() int { return r.number(wide) }

// Fail makes e the error, unless there is one, or e is none.
func (r *Reader) Fail(e api.Errno) {
	if r.err != api.OK || e == api.OK {
		return
	}
	r.err = e
	// Without bytes every later call lacks some, and answers nought.
	r.rest = tape[byte]{}
}

// End tells the error; bytes that are left are one too, but only as long as they are left.
func (r *Reader) End() api.Errno {
	if r.err == api.OK && r.rest.left() > 0 {
		return api.ErrMore
	}
	return r.err
}

// number counts ahead of reading: a number that is cut must not be told in part.
func (r *Reader) number(size int) int {
	if r.rest.left() < size {
		r.Fail(api.ErrCut)
		return 0
	}
	return join(size, r.rest.take)
}

// Byte answers b with v's lowest eight bits behind it.
func Byte(b []byte, v int) []byte { return written(b, narrow, v) }

// Int answers b with v behind it, as eight bytes, the lowest first.
func Int(b []byte, v int) []byte { return written(b, wide, v) }

func written(b []byte, size, v int) []byte {
	t := tapeOf(b, size)
	split(size, v, t.put)
	return t.items
}

// split and join agree on the order of a number's bytes, whatever takes or gives them.
func split(size, v int, put func(byte)) {
	left := uint64(v)
	for range size {
		put(byte(left))
		left >>= 8
	}
}

func join(size int, take func() byte) int {
	v := uint64(0)
	for k := range size {
		v |= uint64(take()) << (8 * k)
	}
	return int(v)
}
