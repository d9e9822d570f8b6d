package sample

import (
	"math"
	"slices"
	"strconv"
	"strings"

	"lacuna/cell"
	"lacuna/rel"
	"lacuna/row"
	"lacuna/value"
)

// EqualRow: is it one row, cell by cell, and bit by bit?
func EqualRow(w, o row.Row) bool { return slices.EqualFunc(w, o, EqualCell) }

// Bool is a full cell of a bool.
func Bool(n int64) cell.Cell { return cell.Of(value.Value{Type: value.Bool, Int: n}) }

// Int is a full cell of an int.
func Int(n int64) cell.Cell { return cell.Of(value.Value{Type: value.Int, Int: n}) }

// Float is a full cell of a float.
func Float(f float64) cell.Cell { return cell.Of(value.Value{Type: value.Float, Num: complex(f, 0)}) }

// Complex is a full cell of a complex number.
func Complex(c complex128) cell.Cell { return cell.Of(value.Value{Type: value.Complex, Num: c}) }

// Text is a full cell of a text.
func Text(s string) cell.Cell { return cell.Of(value.Value{Type: value.Text, Text: s}) }

// Bytes is a full cell of bytes.
func Bytes(s string) cell.Cell { return cell.Of(value.Value{Type: value.Bytes, Text: s}) }

// Rel is a relation with columns of these types.
func Rel(types ...uint8) rel.Rel {
	r := rel.Rel{Ref: rel.Ref{Oid: 5, Version: 1}, Name: "t"}
	for k, kind := range types {
		r.Columns = append(r.Columns, rel.Column{Name: "c" + strconv.Itoa(k), Type: kind})
	}
	return r
}

// Wide is a relation with n columns, of all types one after the other.
func Wide(n, first int) rel.Rel {
	var l []uint8
	for k := range n {
		l = append(l, value.Bool+uint8((first+k)%6))
	}
	return Rel(l...)
}

// Broken is a relation that is wrong, with columns that rows could fit.
func Broken(types ...uint8) rel.Rel {
	r := Rel(types...)
	r.Oid = 0
	return r
}

// Keyed is a relation like r, with another identity, and with a key of these columns.
func Keyed(r rel.Rel, identity uint8, key ...int) rel.Rel {
	r.Identity = identity
	r.Columns = slices.Clone(r.Columns)
	for _, k := range key {
		r.Columns[k].Key = true
	}
	return r
}

// At is a relation like r, with another ref.
func At(r rel.Rel, oid, version uint32) rel.Rel {
	r.Ref = rel.Ref{Oid: oid, Version: version}
	r.Columns = slices.Clone(r.Columns)
	return r
}

// Texts is a relation of n texts, with a key of these columns.
func Texts(n int, identity uint8, key ...int) rel.Rel {
	return Keyed(Rel(slices.Repeat([]uint8{value.Text}, n)...), identity, key...)
}

// Cells is a row of texts; "-" stands for null, "=" for same.
func Cells(l ...string) row.Row {
	var w row.Row
	for _, s := range l {
		switch s {
		case "-":
			w = append(w, cell.Cell{})
		case "=":
			w = append(w, cell.Cell{Kind: cell.Same})
		default:
			w = append(w, Text(s))
		}
	}
	return w
}

// Put is w with another cell at a place.
func Put(w row.Row, at int, c cell.Cell) row.Row {
	w = slices.Clone(w)
	w[at] = c
	return w
}

// RightCells may stand in a column of a type; the last one of them is null.
func RightCells(kind uint8) []cell.Cell {
	var l []cell.Cell
	negative, nan := math.Copysign(0, -1), math.Float64frombits(0x7FF8000000000001)
	switch kind {
	case value.Bool:
		l = []cell.Cell{Bool(0), Bool(1)}
	case value.Int:
		l = []cell.Cell{Int(0), Int(-1), Int(300), Int(math.MinInt64), Int(math.MaxInt64)}
	case value.Float:
		l = []cell.Cell{Float(0), Float(2), Float(negative), Float(nan), Float(math.Inf(-1))}
	case value.Complex:
		l = []cell.Cell{Complex(0), Complex(2i), Complex(1.5), Complex(complex(nan, negative))}
	default:
		l = []cell.Cell{{Kind: cell.Same}}
		for _, n := range []int{0, 1, 2, 63, 64, 65, 66, 128, 300, 2048} {
			s := strings.Repeat("y", n)
			if kind == value.Bytes {
				s = string(Mixed(n, uint32(n)))
			}
			l = append(l, cell.Of(value.Value{Type: kind, Text: s}))
		}
	}
	return append(l, cell.Cell{})
}

// WrongCells may not stand in a column of a type.
func WrongCells(kind uint8) []cell.Cell {
	l := []cell.Cell{
		{Kind: 3}, {Kind: cell.Null, Value: value.Value{Int: 1}}, {Kind: cell.Same, Value: value.Value{Text: "a"}}, {Kind: cell.Full}, {Kind: 9, Value: value.Value{Type: kind}},
		cell.Of(value.Value{Type: 7}), Bool(2), Text("\n"), Text(strings.Repeat("y", 2049)), Bytes(strings.Repeat("y", 2049)),
		cell.Of(value.Value{Type: value.Text, Int: 1, Text: strings.Repeat("y", 65)}),
	}
	for other := uint8(value.Bool); other <= value.Bytes; other++ {
		if other != kind {
			l = append(l, cell.Of(value.Value{Type: other}))
		}
	}
	if kind < value.Text {
		l = append(l, cell.Cell{Kind: cell.Same})
	}
	return l
}

// Rels are right ones, with few columns and with many.
func Rels() []rel.Rel {
	var l []rel.Rel
	for kind := uint8(value.Bool); kind <= value.Bytes; kind++ {
		l = append(l, Rel(kind))
	}
	for _, n := range []int{2, 7, 8, 9, 15, 16} {
		for first := range 6 {
			l = append(l, Wide(n, first))
		}
	}
	texts := Rel(slices.Repeat([]uint8{value.Text, value.Bytes}, 8)...)
	return append(l, Keyed(texts, rel.Key, 15))
}

// Rows are such as fit a relation: one all null, n of which some have no null cell, and some are mixed.
func Rows(r rel.Rel, n uint32) []row.Row {
	l := []row.Row{make(row.Row, len(r.Columns))}
	for seed := range n {
		var w row.Row
		for k, b := range Mixed(len(r.Columns), 7*seed+uint32(len(r.Columns))) {
			cells := RightCells(r.Columns[k].Type)
			if seed%3 == 0 {
				cells = cells[:len(cells)-1]
			}
			w = append(w, cells[int(b)%len(cells)])
		}
		l = append(l, w)
	}
	return l
}
