// Package prim is layer 1: see shared/doc/01-prim.md.
package prim

import (
	"slices"

	"lacuna/api"
)

// maxSevens is how many sevens the greatest number of 64 bits has.
const maxSevens = 10

// PutUint puts a number.
func PutUint(b []byte, v uint64) []byte {
	// Concat, and not append: what is put must not lie in room that b has behind it.
	return slices.Concat(b, sevens(v))
}

// PutInt puts a number with a sign.
func PutInt(b []byte, v int64) []byte {
	return PutUint(b, fold(v))
}

// PutText puts a text.
func PutText(b []byte, s string) []byte {
	return slices.Concat(b, sevens(uint64(len(s))), []byte(s))
}

// sevens are a number's digits to the base 128, the lowest first.
func sevens(v uint64) []byte {
	l := make([]byte, 0, maxSevens)
	for v >= 128 {
		l = append(l, byte(v)|128)
		v >>= 7
	}
	return append(l, byte(v))
}

// fold is a number with a sign as one without: 0, -1, 1, -2 as 0, 1, 2, 3.
func fold(v int64) uint64 {
	if v < 0 {
		// -2v - 1, by bits: the lowest int64 has no opposite.
		return ^(uint64(v) << 1)
	}
	return uint64(v) << 1
}

// unfold is the number with a sign that was folded.
func unfold(u uint64) int64 {
	if u&1 == 1 {
		return ^int64(u >> 1)
	}
	return int64(u >> 1)
}

// Reader goes through bytes.
type Reader struct {
	left []byte // none, once it gave up: so all calls find nothing then
	err  api.Errno
}

// Read makes a reader.
func Read(b []byte) *Reader {
	// b may be changed by whoever has it, while the reader is still on its way.
	return &Reader{left: slices.Clone(b)}
}

// Uint is the next number.
func (r *Reader) Uint(most uint64) uint64 {
	v, n, e := number(r.left)
	if e == api.OK && v > most {
		e = api.ErrRange
	}
	if e != api.OK {
		r.Fail(e)
		return 0
	}
	r.left = r.left[n:]
	return v
}

// number is the number that b begins with, and how many sevens it has.
func number(b []byte) (uint64, int, api.Errno) {
	var v uint64
	n := 0
digit:
	// The end is asked for ahead of the digit, so that an earlier end is told first.
	if n == len(b) {
		return 0, 0, api.ErrShort
	}
	d := b[n]
	if n == maxSevens-1 && d > 1 {
		return 0, 0, api.ErrOver
	}
	v |= uint64(d&127) << (7 * n)
	n++
	if d >= 128 {
		goto digit
	}
	if d == 0 && n > 1 {
		return 0, 0, api.ErrOver
	}
	return v, n, api.OK
}

// Int is the next number with a sign.
func (r *Reader) Int() int64 {
	return unfold(r.Uint(1<<64 - 1))
}

// Text is the next text.
func (r *Reader) Text(most int) string {
	n := r.Uint(uint64(max(most, 0)))
	return string(r.take(int(n)))
}

// Byte is the next byte.
func (r *Reader) Byte() byte {
	b := r.take(1)
	if len(b) == 0 {
		return 0
	}
	return b[0]
}

// Word is the next number of eight bytes.
func (r *Reader) Word() uint64 {
	var v uint64
	for k, d := range r.take(8) {
		v |= uint64(d) << (8 * k)
	}
	return v
}

// take are the next n bytes, or none, if there are fewer.
func (r *Reader) take(n int) []byte {
	if n > len(r.left) {
		r.Fail(api.ErrShort)
		return nil
	}
	b := r.left[:n]
	r.left = r.left[n:]
	return b
}

// Left is how many bytes are left.
func (r *Reader) Left() int { return len(r.left) }

// Err is the error with which it gave up.
func (r *Reader) Err() api.Errno { return r.err }

// Fail gives up.
func (r *Reader) Fail(e api.Errno) {
	if r.err != api.OK || e == api.OK {
		return
	}
	r.left, r.err = nil, e
}

// End is what is wrong at the end.
func (r *Reader) End() api.Errno {
	if r.err == api.OK && len(r.left) > 0 {
		return api.ErrLong
	}
	return r.err
}
