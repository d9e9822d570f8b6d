// Package sample has what the tests of several packages share: the program itself calls none of it.
package sample

import (
	"bytes"
	"math"
	"slices"

	"lacuna/cell"
	"lacuna/rel"
	"lacuna/value"
)

// Mixed are n bytes that show no order; others for another seed.
func Mixed(n int, seed uint32) []byte {
	b := make([]byte, n)
	for k := range b {
		seed = seed*1664525 + 1013904223
		b[k] = byte(seed >> 24)
	}
	return b
}

// Join are all parts, one behind the other, in new memory.
func Join(parts ...[]byte) []byte { return bytes.Join(parts, nil) }

// Equal: is it one value, field by field, and bit by bit? (A second writing of what value.Same tells, to hold it against.)
func Equal(v, w value.Value) bool {
	bits := math.Float64bits
	return v.Type == w.Type && v.Int == w.Int && v.Text == w.Text &&
		bits(real(v.Num)) == bits(real(w.Num)) && bits(imag(v.Num)) == bits(imag(w.Num))
}

// EqualCell: is it one cell, likewise?
func EqualCell(c, d cell.Cell) bool { return c.Kind == d.Kind && Equal(c.Value, d.Value) }

// EqualRel: is it one relation, field by field?
func EqualRel(r, o rel.Rel) bool {
	return r.Oid == o.Oid && r.Version == o.Version && r.Name == o.Name && r.Identity == o.Identity && slices.Equal(r.Columns, o.Columns)
}
