// Package code: bytes. See doc/01-code.md.
package code

import (
	"bytes"

	"comitia/api"
)

const (
	intBytes  = 8                    // of a number
	sizeBytes = 2                    // of how long a text is
	maxText   = 1<<(8*sizeBytes) - 1 // the longest that these can tell
)

// Int is b with a number behind it, as eight bytes.
func Int(b []byte, n int) []byte {
	return split(room(b, intBytes), uint64(n), intBytes)
}

// Byte is b with a number's lowest eight bits behind it.
func Byte(b []byte, n int) []byte {
	return split(room(b, 1), uint64(n), 1)
}

// Text is b with a text behind it, or as much of one as its length can tell.
func Text(b []byte, s string) []byte {
	s = s[:min(len(s), maxText)]
	out := split(room(b, sizeBytes+len(s)), uint64(len(s)), sizeBytes)
	return append(out, s...)
}

// room is a copy of b with room behind it: an append to b itself could write into the caller's spare room.
func room(b []byte, more int) []byte {
	out := make([]byte, len(b), len(b)+more)
	copy(out, b)
	return out
}

// split puts so many bytes of a number behind out, the lowest first.
func split(out []byte, n uint64, count int) []byte {
next:
	if count == 0 {
		return out
	}
	out = append(out, byte(n))
	n >>= 8
	count--
	goto next
}

// join makes a number of so many bytes, the lowest first.
func join(read func() int, count int) int {
	n, shift := uint64(0), 0
next:
	if shift == 8*count {
		return int(n)
	}
	n |= uint64(read()) << shift
	shift += 8
	goto next
}

// Reader reads what was written, and keeps the first error.
type Reader struct {
	rest []byte
	err  api.Errno
}

// New is a Reader of a copy of b: the caller may change b while the Reader still reads.
func New(b []byte) *Reader {
	return &Reader{rest: bytes.Clone(b)}
}

// Int reads a number of eight bytes.
func (r *Reader) Int() int {
	n := join(r.Byte, intBytes)
	if r.err != api.OK {
		return 0
	}
	return n
}

// Byte reads a number of one byte.
func (r *Reader) Byte() int {
	front := r.take(1)
	if r.err != api.OK {
		return 0
	}
	return int(front[0])
}

// Text reads a text behind its length.
func (r *Reader) Text() string {
	size := join(r.Byte, sizeBytes)
	return string(r.take(size))
}

// take is the next n bytes; none, if they lack or the Reader has an error.
func (r *Reader) take(n int) []byte {
	if r.err != api.OK || len(r.rest) < n {
		r.Fail(api.ErrCut) // an error that was there already stays
		return nil
	}
	front := r.rest[:n]
	r.rest = r.rest[n:]
	return front
}

// Fail makes e the Reader's error, if it has none.
func (r *Reader) Fail(e api.Errno) {
	if r.err != api.OK || e == api.OK {
		return
	}
	r.err = e
	r.rest = nil // nothing reads on behind an error
}

// End tells the Reader's error, or that bytes are left.
func (r *Reader) End() api.Errno {
	if r.err == api.OK && len(r.rest) > 0 {
		return api.ErrMore
	}
	return r.err
}
