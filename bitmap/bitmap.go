// Package bitmap is layer 2: see shared/doc/02-bitmap.md.
package bitmap

import "lacuna/api"

// Pack is the map of some things.
func Pack(l ...bool) ([]byte, api.Errno) {
	if !mapped(len(l)) {
		return nil, api.ErrCount
	}
	b := make([]byte, Size(len(l)))
	for k := range len(l) {
		if l[k] {
			b[k/8] |= bit(k)
		}
	}
	return b, api.OK
}

// Unpack are the things of a map.
func Unpack(b []byte, n int) ([]bool, api.Errno) {
	switch {
	case !mapped(n):
		return nil, api.ErrCount
	case len(b) < Size(n):
		return nil, api.ErrShort
	case len(b) > Size(n):
		return nil, api.ErrLong
	}
	l := make([]bool, n)
	for k := range 8 * len(b) {
		if b[k/8]&bit(k) == 0 {
			continue
		}
		if k >= n {
			return nil, api.ErrForm
		}
		l[k] = true
	}
	return l, api.OK
}

// Size is how many bytes a map has.
func Size(n int) int {
	if !mapped(n) {
		return 0
	}
	return (n + 7) / 8
}

// Count is how many are true.
func Count(l ...bool) int {
	n := 0
	for _, t := range l {
		if t {
			n++
		}
	}
	return n
}

// mapped: is there a map of so many things?
func mapped(n int) bool { return n >= 0 && n <= api.MaxColumns }

// bit is that of the thing k in its byte.
func bit(k int) byte { return 1 << (k % 8) }
