package row_test

import (
	"bytes"
	"math"
	"slices"
	"strconv"
	"strings"
	"testing"

	"lacuna/api"
	"lacuna/cell"
	"lacuna/prim"
	"lacuna/rel"
	"lacuna/row"
	"lacuna/sample"
	"lacuna/value"
)

// equal: is it one row, cell by cell, and bit by bit?
func equal(w, o row.Row) bool { return slices.EqualFunc(w, o, sample.EqualCell) }

// made is a relation with columns of these types.
func made(types ...uint8) rel.Rel {
	r := rel.Rel{Ref: rel.Ref{Oid: 5, Version: 1}, Name: "t"}
	for k, kind := range types {
		r.Columns = append(r.Columns, rel.Column{Name: "c" + strconv.Itoa(k), Type: kind})
	}
	return r
}

// wide is a relation with n columns, of all types one after the other.
func wide(n, first int) rel.Rel {
	var l []uint8
	for k := range n {
		l = append(l, value.Bool+uint8((first+k)%6))
	}
	return made(l...)
}

// broken is a relation that is wrong, with columns that rows could fit.
func broken(types ...uint8) rel.Rel {
	r := made(types...)
	r.Oid = 0
	return r
}

func yes(n int64) cell.Cell    { return cell.Of(value.Value{Type: value.Bool, Int: n}) }
func number(n int64) cell.Cell { return cell.Of(value.Value{Type: value.Int, Int: n}) }
func text(s string) cell.Cell  { return cell.Of(value.Value{Type: value.Text, Text: s}) }
func raw(s string) cell.Cell   { return cell.Of(value.Value{Type: value.Bytes, Text: s}) }

func float(f float64) cell.Cell {
	return cell.Of(value.Value{Type: value.Float, Num: complex(f, 0)})
}

func pair(c complex128) cell.Cell { return cell.Of(value.Value{Type: value.Complex, Num: c}) }

var (
	null     = cell.Cell{}
	same     = cell.Cell{Kind: cell.Same}
	negative = math.Copysign(0, -1)
	nan      = math.Float64frombits(0x7FF8000000000001)
	versions = []uint8{0, 1, 2, 3, 255}
	x63      = strings.Repeat("x", 63)
)

// right are cells that may stand in a column of a type.
func right(kind uint8) []cell.Cell {
	var l []cell.Cell
	switch kind {
	case value.Bool:
		l = []cell.Cell{yes(0), yes(1)}
	case value.Int:
		l = []cell.Cell{number(0), number(-1), number(300), number(math.MinInt64), number(math.MaxInt64)}
	case value.Float:
		l = []cell.Cell{float(0), float(2), float(negative), float(nan), float(math.Inf(-1))}
	case value.Complex:
		l = []cell.Cell{pair(0), pair(2i), pair(1.5), pair(complex(nan, negative))}
	default:
		l = []cell.Cell{same}
		for _, n := range []int{0, 1, 2, 63, 64, 65, 66, 128, 300, 2048} {
			s := strings.Repeat("y", n)
			if kind == value.Bytes {
				s = string(sample.Mixed(n, uint32(n)))
			}
			l = append(l, cell.Of(value.Value{Type: kind, Text: s}))
		}
	}
	return append(l, null)
}

// wrong are cells that may not stand in a column of a type.
func wrong(kind uint8) []cell.Cell {
	l := []cell.Cell{
		{Kind: 3}, {Kind: cell.Null, Value: value.Value{Int: 1}}, {Kind: cell.Same, Value: value.Value{Text: "a"}}, {Kind: cell.Full}, {Kind: 9, Value: value.Value{Type: kind}},
		cell.Of(value.Value{Type: 7}), cell.Of(value.Value{Type: value.Bool, Int: 2}), text("\n"), text(strings.Repeat("y", 2049)), raw(strings.Repeat("y", 2049)),
		cell.Of(value.Value{Type: value.Text, Int: 1, Text: strings.Repeat("y", 65)}),
	}
	for other := uint8(value.Bool); other <= value.Bytes; other++ {
		if other != kind {
			l = append(l, cell.Of(value.Value{Type: other}))
		}
	}
	if kind < value.Text {
		l = append(l, same)
	}
	return l
}

// relations are right ones, with few columns and with many.
func relations() []rel.Rel {
	var l []rel.Rel
	for kind := uint8(value.Bool); kind <= value.Bytes; kind++ {
		l = append(l, made(kind))
	}
	for _, n := range []int{2, 7, 8, 9, 15, 16} {
		for first := range 6 {
			l = append(l, wide(n, first))
		}
	}
	texts := made(slices.Repeat([]uint8{value.Text, value.Bytes}, 8)...)
	texts.Identity, texts.Columns[15].Key = rel.Key, true
	return append(l, texts)
}

// someRows are rows that fit a relation: all null, none null, and mixed.
func someRows(r rel.Rel, n uint32) []row.Row {
	l := []row.Row{make(row.Row, len(r.Columns))}
	for seed := range n {
		var w row.Row
		for k, b := range sample.Mixed(len(r.Columns), 7*seed+uint32(len(r.Columns))) {
			cells := right(r.Columns[k].Type)
			if seed%3 == 0 {
				// The last one of them is the null one.
				cells = cells[:len(cells)-1]
			}
			w = append(w, cells[int(b)%len(cells)])
		}
		l = append(l, w)
	}
	return l
}

// fitsByWords is what P10.1 says that Fits answers.
func fitsByWords(w row.Row, r rel.Rel) api.Errno {
	if e := r.Right(); e != api.OK {
		return e
	}
	if len(w) != len(r.Columns) {
		return api.ErrCount
	}
	for k := range w {
		if e := cell.Right(w[k], r.Columns[k].Type); e != api.OK {
			return e
		}
	}
	return api.OK
}

func TestP101Fits(t *testing.T) {
	three := made(value.Bool, value.Text, value.Int)
	full := row.Row{yes(1), text("a"), number(7)}
	with := func(at int, c cell.Cell) row.Row {
		w := slices.Clone(full)
		w[at] = c
		return w
	}
	noKey := made(value.Bool)
	noKey.Identity = rel.Key
	for _, x := range []struct {
		name string
		w    row.Row
		r    rel.Rel
		e    api.Errno
	}{
		{"full", full, three, api.OK},
		{"all null", row.Row{null, null, null}, three, api.OK},
		{"same in a text", with(1, same), three, api.OK},
		{"one fewer", full[:2], three, api.ErrCount},
		{"one more", append(slices.Clone(full), null), three, api.ErrCount},
		{"none", nil, three, api.ErrCount},
		{"empty", row.Row{}, three, api.ErrCount},
		{"one more than 16", make(row.Row, 17), wide(16, 0), api.ErrCount},
		{"16 in 16", make(row.Row, 16), wide(16, 0), api.OK},
		{"the first one of another type", with(0, number(1)), three, api.ErrType},
		{"the first one of a kind there is not", with(0, cell.Cell{Kind: 3}), three, api.ErrKind},
		{"the last one same", with(2, same), three, api.ErrType},
		{"the last one null with a value", with(2, cell.Cell{Value: value.Value{Int: 1}}), three, api.ErrForm},
		{"the last one too long", row.Row{text(strings.Repeat("x", 2049))}, made(value.Text), api.ErrLong},
		{"a bool of 2", with(0, yes(2)), three, api.ErrRange},
		{"2048 bytes", with(1, text(strings.Repeat("x", 2048))), three, api.OK},
		{"no relation", full, rel.Rel{}, api.ErrRange},
		{"an oid of 0", full, broken(value.Bool, value.Text, value.Int), api.ErrRange},
		{"no columns", nil, made(), api.ErrCount},
		{"17 columns", make(row.Row, 17), wide(17, 0), api.ErrCount},
		{"a column of no type", full, made(value.Bool, value.Text, 7), api.ErrType},
		{"identity key without a key", row.Row{yes(1)}, noKey, api.ErrKey},

		{"the relation ahead of the count", full[:1], broken(value.Bool, value.Text, value.Int), api.ErrRange},
		{"the relation ahead of a cell", with(0, cell.Cell{Kind: 3}), broken(value.Bool, value.Text, value.Int), api.ErrRange},
		{"the count ahead of a cell", with(0, cell.Cell{Kind: 3})[:2], three, api.ErrCount},
		{"the first of two", row.Row{{Kind: 3}, text("\n"), number(7)}, three, api.ErrKind},
		{"the first of two, turned round", row.Row{yes(1), text("\n"), {Kind: 3}}, three, api.ErrForm},
		{"the first and the last", row.Row{yes(2), text("a"), {Kind: 3}}, three, api.ErrRange},
	} {
		if e := x.w.Fits(x.r); e != x.e {
			t.Errorf("%s: %d, not %d", x.name, e, x.e)
		}
	}
}

func TestP101FitsByItsWords(t *testing.T) {
	for _, r := range relations() {
		for k, w := range someRows(r, 12) {
			if e := w.Fits(r); e != api.OK {
				t.Fatalf("%v of %v: error %d", w, r, e)
			}
			at := k % len(w)
			for _, c := range wrong(r.Columns[at].Type) {
				o := slices.Clone(w)
				o[at] = c
				if e := o.Fits(r); e != cell.Right(c, r.Columns[at].Type) || e == api.OK {
					t.Fatalf("%v of %v: error %d", o, r, e)
				}
				// Another one is wrong, too.
				o[len(o)-1] = cell.Cell{Kind: 4}
				if e := o.Fits(r); e != fitsByWords(o, r) {
					t.Fatalf("%v of %v: error %d, not %d", o, r, e, fitsByWords(o, r))
				}
			}
		}
	}
}

// Each cell, in columns of each type.
func TestP101FitsEachCell(t *testing.T) {
	for kind := uint8(value.Bool); kind <= value.Bytes; kind++ {
		for from := uint8(value.Bool); from <= value.Bytes; from++ {
			for _, c := range slices.Concat(right(from), wrong(from)) {
				if e := (row.Row{c}).Fits(made(kind)); e != cell.Right(c, kind) {
					t.Fatalf("%v in %d: %d, not %d", c, kind, e, cell.Right(c, kind))
				}
			}
		}
	}
}

func TestP101Alike(t *testing.T) {
	w := row.Row{yes(1), float(nan), text(x63 + "ab"), null, same}
	with := func(at int, c cell.Cell) row.Row {
		o := slices.Clone(w)
		o[at] = c
		return o
	}
	for name, o := range map[string]row.Row{
		"none":                w[:0],
		"one fewer":           w[:4],
		"one more":            append(slices.Clone(w), null),
		"the first one":       with(0, yes(0)),
		"a NaN of other bits": with(1, float(math.Float64frombits(0x7FF8000000000002))),
		"a float as an int":   with(1, number(0)),
		"a text's last byte":  with(2, text(x63+"ac")),
		"a text as bytes":     with(2, raw(x63+"ab")),
		"null and same":       with(3, same),
		"null with a value":   with(3, cell.Cell{Value: value.Value{Int: 1}}),
		"the last one":        with(4, null),
		"turned round":        {same, null, text(x63 + "ab"), float(nan), yes(1)},
	} {
		if w.Alike(o) || o.Alike(w) {
			t.Errorf("%s: alike", name)
		}
		if !o.Alike(o) {
			t.Errorf("%s: not like itself", name)
		}
	}
	if !w.Alike(slices.Clone(w)) || !w.Alike(w) {
		t.Error("not alike")
	}
	if !(row.Row{float(0)}).Alike(row.Row{float(0)}) || (row.Row{float(0)}).Alike(row.Row{float(negative)}) {
		t.Error("0 and -0")
	}
	r := wide(9, 2)
	l := someRows(r, 40)
	for _, a := range l {
		for _, b := range l {
			if a.Alike(b) != equal(a, b) {
				t.Fatalf("%v and %v", a, b)
			}
		}
	}
}

func TestP101HolesAndTexts(t *testing.T) {
	long, longer := strings.Repeat("a", 65), strings.Repeat("b", 2048)
	for _, x := range []struct {
		name  string
		w     row.Row
		holes []row.Hole
		texts []string
	}{
		{"no cells", nil, nil, nil},
		{"none is full", row.Row{null, same}, nil, nil},
		{"none is large", row.Row{yes(1), number(65), text(x63 + "x"), raw(x63 + "x"), text("")}, nil, nil},
		{"one alone", row.Row{text(long)}, []row.Hole{{Column: 0, Size: 65}}, []string{long}},
		{"the last one", row.Row{text(x63 + "x"), raw(long)}, []row.Hole{{Column: 1, Size: 65}}, []string{long}},
		{"several", row.Row{raw(longer), yes(1), text(long), null, same, text("a"), text(longer)}, []row.Hole{{Column: 0, Size: 2048}, {Column: 2, Size: 65}, {Column: 6, Size: 2048}}, []string{longer, long, longer}},
		{"equal ones", row.Row{text(long), text(long)}, []row.Hole{{Column: 0, Size: 65}, {Column: 1, Size: 65}}, []string{long, long}},
		{"cells that may not be", row.Row{{Kind: cell.Null, Value: value.Value{Type: value.Text, Text: long}}, {Kind: 3, Value: value.Value{Type: value.Text, Text: long}}, cell.Of(value.Value{Type: value.Int, Text: long})}, nil, nil},
		{"one longer than can be", row.Row{raw(longer + "x")}, []row.Hole{{Column: 0, Size: 2049}}, []string{longer + "x"}},
	} {
		if l := x.w.Holes(); !slices.Equal(l, x.holes) {
			t.Errorf("%s: %v", x.name, l)
		}
		if l := x.w.Texts(); !slices.Equal(l, x.texts) {
			t.Errorf("%s: %q", x.name, l)
		}
	}
	for _, r := range relations() {
		for _, w := range someRows(r, 30) {
			var holes []row.Hole
			var texts []string
			for k, c := range w {
				if c.Kind == 2 && c.Value.Type >= 5 && len(c.Value.Text) > 64 {
					holes, texts = append(holes, row.Hole{Column: k, Size: len(c.Value.Text)}), append(texts, c.Value.Text)
				}
			}
			if !slices.Equal(w.Holes(), holes) || !slices.Equal(w.Texts(), texts) {
				t.Fatalf("%v: %v", w, w.Holes())
			}
		}
	}
}

func TestP102Encode(t *testing.T) {
	long := strings.Repeat("a", 300)
	x64 := x63 + "x"
	bools := slices.Repeat([]uint8{value.Bool}, 16)
	for _, x := range []struct {
		name     string
		r        rel.Rel
		w        row.Row
		one, two string
	}{
		{"one null", made(value.Int), row.Row{null}, "\x01", "\x01"},
		{"one bool", made(value.Bool), row.Row{yes(1)}, "\x00\x01\x01", "\x00\x01"},
		{"one int", made(value.Int), row.Row{number(-1)}, "\x00\x01\xff\xff\xff\xff\xff\xff\xff\xff", "\x00\x01"},
		{"one float", made(value.Float), row.Row{float(2)}, "\x00\x01\x00\x00\x00\x00\x00\x00\x00\x40", "\x00\x40"},
		{"one complex", made(value.Complex), row.Row{pair(2i)}, "\x00\x01\x00\x00\x00\x00\x00\x00\x00\x00\x00\x00\x00\x00\x00\x00\x00\x40", "\x00\x02\x40"},
		{"one text that is same", made(value.Text), row.Row{same}, "\x00\x00", "\x00\x00"},
		{"bytes that are same", made(value.Bytes), row.Row{same}, "\x00\x00", "\x00\x00"},
		{"an empty text", made(value.Text), row.Row{text("")}, "\x00\x01\x00", "\x00\x02"},
		{"64 bytes", made(value.Text), row.Row{text(x64)}, "\x00\x01\x40" + x64, "\x00\x42" + x64},
		{"65 bytes", made(value.Text), row.Row{text(x64 + "x")}, "\x00\x02\x41", "\x00\x01\x41"},
		{"any 64 bytes", made(value.Bytes), row.Row{raw(x63 + "\x00")}, "\x00\x01\x40" + x63 + "\x00", "\x00\x42" + x63 + "\x00"},
		{"any 65 bytes", made(value.Bytes), row.Row{raw(x64 + "\x00")}, "\x00\x02\x41", "\x00\x01\x41"},
		{"null in the middle", made(value.Bool, value.Int, value.Text), row.Row{yes(0), null, text("a")}, "\x02\x01\x00\x01\x01a", "\x02\x00\x03a"},
		{"null at the end", made(value.Bool, value.Int, value.Text), row.Row{yes(1), number(0), null}, "\x04\x01\x01\x01\x00\x00\x00\x00\x00\x00\x00\x00", "\x04\x01\x00"},
		{"several large ones", made(value.Text, value.Bool, value.Bytes, value.Text), row.Row{text(long), yes(1), raw(long), text("b")}, "\x00\x02\xac\x02\x01\x01\x02\xac\x02\x01\x01b", "\x00\x01\xac\x02\x01\x01\xac\x02\x03b"},
		{"8, all null", made(bools[:8]...), make(row.Row, 8), "\xff", "\xff"},
		{"9, all null", made(bools[:9]...), make(row.Row, 9), "\xff\x01", "\xff\x01"},
		{"16, all null", made(bools...), make(row.Row, 16), "\xff\xff", "\xff\xff"},
		{"8, none null", made(bools[:8]...), slices.Repeat(row.Row{yes(1)}, 8), "\x00" + strings.Repeat("\x01\x01", 8), "\x00" + strings.Repeat("\x01", 8)},
		{"9, none null", made(bools[:9]...), slices.Repeat(row.Row{yes(1)}, 9), "\x00\x00" + strings.Repeat("\x01\x01", 9), "\x00\x00" + strings.Repeat("\x01", 9)},
		{"16, none null", made(bools...), slices.Repeat(row.Row{yes(0)}, 16), "\x00\x00" + strings.Repeat("\x01\x00", 16), "\x00\x00" + strings.Repeat("\x00", 16)},
		{"9, but the last one null", made(bools[:9]...), append(make(row.Row, 8), yes(1)), "\xff\x00\x01\x01", "\xff\x00\x01"},
		{"16, two not null", made(bools...), slices.Concat(row.Row{yes(1)}, make(row.Row, 14), row.Row{yes(0)}), "\xfe\x7f\x01\x01\x01\x00", "\xfe\x7f\x01\x00"},
	} {
		for version, want := range map[uint8]string{1: x.one, 2: x.two} {
			if b, e := x.w.Encode(x.r, version); e != api.OK || string(b) != want {
				t.Errorf("%s in version %d: %v, error %d", x.name, version, b, e)
			}
			in := prim.Read([]byte(want))
			w, holes := row.Take(in, x.r, version)
			if in.End() != api.OK || !slices.Equal(holes, x.w.Holes()) {
				t.Errorf("%s in version %d: %v, error %d", x.name, version, holes, in.End())
			}
			if w, e := w.Fill(holes, x.w.Texts()); e != api.OK || !equal(w, x.w) {
				t.Errorf("%s in version %d: %v, error %d", x.name, version, w, e)
			}
		}
	}
}

// encodeByWords is what P10.2 says that Encode answers.
func encodeByWords(w row.Row, r rel.Rel, version uint8) ([]byte, api.Errno) {
	if version != 1 && version != 2 {
		return nil, api.ErrVersion
	}
	if e := fitsByWords(w, r); e != api.OK {
		return nil, e
	}
	b := make([]byte, (len(w)+7)/8)
	for k, c := range w {
		if c.Kind == 0 {
			b[k/8] += 1 << (k % 8)
			continue
		}
		more, _ := cell.Put(nil, c, r.Columns[k].Type, version)
		b = append(b, more...)
	}
	return b, api.OK
}

func TestP102EncodeByItsWords(t *testing.T) {
	for _, r := range relations() {
		for k, w := range someRows(r, 12) {
			broke := slices.Clone(w)
			at := k % len(w)
			cells := wrong(r.Columns[at].Type)
			broke[at] = cells[k%len(cells)]
			for _, o := range []row.Row{w, broke, w[:len(w)-1], append(slices.Clone(w), null)} {
				for _, version := range versions {
					b, e := o.Encode(r, version)
					want, err := encodeByWords(o, r, version)
					if e != err || !bytes.Equal(b, want) || e != api.OK && b != nil {
						t.Fatalf("%v of %v, version %d: %v, error %d, not %v, %d", o, r, version, b, e, want, err)
					}
				}
			}
		}
	}
}

func TestP102EncodeWrong(t *testing.T) {
	two := made(value.Bool, value.Text)
	full := row.Row{yes(1), text("a")}
	for _, x := range []struct {
		name    string
		w       row.Row
		r       rel.Rel
		version uint8
		e       api.Errno
	}{
		{"the version 0", full, two, 0, api.ErrVersion},
		{"the version 3", full, two, 3, api.ErrVersion},
		{"the version 255", full, two, 255, api.ErrVersion},
		{"all null, the version 0", make(row.Row, 2), two, 0, api.ErrVersion},
		{"all null, the version 3", make(row.Row, 2), two, 3, api.ErrVersion},
		{"a wrong relation", full, broken(value.Bool, value.Text), 1, api.ErrRange},
		{"one fewer", full[:1], two, 2, api.ErrCount},
		{"one more", append(slices.Clone(full), null), two, 2, api.ErrCount},
		{"none", nil, two, 1, api.ErrCount},
		{"none of no columns", nil, made(), 1, api.ErrCount},
		{"17 of 17 columns", make(row.Row, 17), wide(17, 0), 1, api.ErrCount},
		{"a wrong cell", row.Row{yes(1), text("\n")}, two, 1, api.ErrForm},

		{"the version ahead of the relation", full, broken(value.Bool, value.Text), 3, api.ErrVersion},
		{"the version ahead of the count", full[:1], two, 0, api.ErrVersion},
		{"the version ahead of a cell", row.Row{{Kind: 3}, null}, two, 3, api.ErrVersion},
		{"the relation ahead of the count", full[:1], broken(value.Bool, value.Text), 1, api.ErrRange},
		{"the relation ahead of a cell", row.Row{{Kind: 3}, null}, broken(value.Bool, value.Text), 2, api.ErrRange},
		{"the count ahead of a cell", row.Row{{Kind: 3}}, two, 2, api.ErrCount},
		{"the first of two cells", row.Row{yes(2), {Kind: 3}}, two, 2, api.ErrRange},
	} {
		if b, e := x.w.Encode(x.r, x.version); b != nil || e != x.e {
			t.Errorf("%s: %v, error %d, not %d", x.name, b, e, x.e)
		}
	}
}

// takeByWords is what P10.2 says that Take answers, how many bytes are taken then, and with what it gives up.
func takeByWords(b []byte, r rel.Rel, version uint8) (row.Row, []row.Hole, int, api.Errno) {
	bad := func(e api.Errno) (row.Row, []row.Hole, int, api.Errno) { return nil, nil, 0, e }
	if e := r.Right(); e != api.OK {
		return bad(e)
	}
	if version != 1 && version != 2 {
		return bad(api.ErrVersion)
	}
	n := len(r.Columns)
	at := 1
	if n > 8 {
		at = 2
	}
	if len(b) < at {
		return bad(api.ErrShort)
	}
	bit := func(k int) bool { return b[k/8]>>(k%8)%2 == 1 }
	for k := n; k < 8*at; k++ {
		if bit(k) {
			return bad(api.ErrForm)
		}
	}
	var w row.Row
	var holes []row.Hole
	for k := range n {
		if bit(k) {
			w = append(w, cell.Cell{})
			continue
		}
		in := prim.Read(b[at:])
		c, size := cell.Take(in, r.Columns[k].Type, version)
		if in.Err() != api.OK {
			return bad(in.Err())
		}
		if size != 0 {
			holes = append(holes, row.Hole{Column: k, Size: size})
		}
		w = append(w, c)
		at = len(b) - in.Left()
	}
	return w, holes, at, api.OK
}

// taken holds Take against the words, and what it takes, when it is filled, against Encode.
func taken(t *testing.T, b []byte, r rel.Rel, version uint8) api.Errno {
	t.Helper()
	in := prim.Read(b)
	w, holes := row.Take(in, r, version)
	want, gone, size, e := takeByWords(b, r, version)
	if in.Err() != e || !equal(w, want) || !slices.Equal(holes, gone) || e != api.OK && (w != nil || holes != nil) {
		t.Fatalf("%v of %v, version %d: %v, %v, error %d, not %v, %v, %d", b, r, version, w, holes, in.Err(), want, gone, e)
	}
	if e != api.OK {
		return e
	}
	if len(b)-in.Left() != size {
		t.Fatalf("%v of %v, version %d: %d bytes left", b, r, version, in.Left())
	}
	var texts []string
	for _, h := range holes {
		texts = append(texts, strings.Repeat("x", h.Size))
	}
	full, e := w.Fill(holes, texts)
	if e != api.OK {
		t.Fatalf("%v: filled with error %d", w, e)
	}
	if back, e := full.Encode(r, version); e != api.OK || !bytes.Equal(back, b[:size]) {
		t.Fatalf("%v of %v, version %d: encoded as %v, error %d", b, r, version, back, e)
	}
	return api.OK
}

func TestP102Take(t *testing.T) {
	r := made(value.Text, value.Bool, value.Bytes, value.Int)
	for _, x := range []struct {
		name    string
		b       string
		version uint8
		w       row.Row
		holes   []row.Hole
	}{
		{"all null", "\x0f", 1, make(row.Row, 4), nil},
		{"all null in version 2", "\x0f", 2, make(row.Row, 4), nil},
		{"the first one alone", "\x0e\x01\x01a", 1, row.Row{text("a"), null, null, null}, nil},
		{"the last one alone in version 2", "\x07\x01", 2, row.Row{null, null, null, number(-1)}, nil},
		{"two same ones", "\x0a\x00\x00", 1, row.Row{same, null, same, null}, nil},
		{"two same ones in version 2", "\x0a\x00\x00", 2, row.Row{same, null, same, null}, nil},
		{"a large one", "\x0c\x02\x41\x01\x00", 1, row.Row{text(""), yes(0), null, null}, []row.Hole{{Column: 0, Size: 65}}},
		{"large ones in version 2", "\x00\x01\x41\x01\x01\xac\x02\x0e", 2, row.Row{text(""), yes(1), raw(""), number(7)}, []row.Hole{{Column: 0, Size: 65}, {Column: 2, Size: 300}}},
		{"an empty text is no hole", "\x0e\x02", 2, row.Row{text(""), null, null, null}, nil},
	} {
		in := prim.Read([]byte(x.b + "\x09\x09"))
		w, holes := row.Take(in, r, x.version)
		if !equal(w, x.w) || !slices.Equal(holes, x.holes) || in.Err() != api.OK || in.Left() != 2 {
			t.Errorf("%s: %v, %v, error %d, %d bytes left", x.name, w, holes, in.Err(), in.Left())
		}
	}
}

func TestP102TakeWrong(t *testing.T) {
	two := made(value.Bool, value.Text)
	nine := wide(9, 0)
	bad := broken(value.Bool, value.Text)
	noType := made(value.Bool, 7)
	for _, x := range []struct {
		name    string
		b       string
		r       rel.Rel
		version uint8
		e       api.Errno
	}{
		{"a wrong relation", "\x01\x04ab", bad, 2, api.ErrRange},
		{"a relation without columns", "", made(), 1, api.ErrCount},
		{"a relation of 17 columns", "\xff\xff\x01", wide(17, 0), 1, api.ErrCount},
		{"a column of no type", "\x03", noType, 1, api.ErrType},
		{"the version 0", "\x01\x04ab", two, 0, api.ErrVersion},
		{"the version 3", "\x01\x04ab", two, 3, api.ErrVersion},
		{"all null, the version 0", "\x03", two, 0, api.ErrVersion},
		{"all null, the version 3", "\x03", two, 3, api.ErrVersion},
		{"no byte", "", two, 1, api.ErrShort},
		{"no byte of 9 columns", "", nine, 2, api.ErrShort},
		{"one byte of 9 columns", "\xff", nine, 1, api.ErrShort},
		{"one byte of 16 columns", "\xff", wide(16, 0), 2, api.ErrShort},
		{"a bit behind", "\x04", two, 1, api.ErrForm},
		{"another bit behind", "\x83", two, 2, api.ErrForm},
		{"all bits", "\xff", two, 1, api.ErrForm},
		{"a bit behind 9 columns", "\xff\x03", nine, 1, api.ErrForm},
		{"the last bit behind 9 columns", "\xff\x81", nine, 2, api.ErrForm},
		{"a bit behind 15 columns", "\xff\xff", wide(15, 0), 2, api.ErrForm},
		{"no first cell", "\x00", two, 1, api.ErrShort},
		{"half a first cell", "\x00\x01", two, 1, api.ErrShort},
		{"no second cell", "\x00\x01\x01", two, 1, api.ErrShort},
		{"half a second cell", "\x00\x01\x01\x01", two, 1, api.ErrShort},
		{"a second cell without its bytes", "\x00\x01\x01\x01\x02a", two, 1, api.ErrShort},
		{"no first cell in version 2", "\x00", two, 2, api.ErrShort},
		{"no second cell in version 2", "\x00\x01", two, 2, api.ErrShort},
		{"a second cell without its bytes in version 2", "\x00\x01\x04a", two, 2, api.ErrShort},
		{"a large one without its length", "\x01\x01", two, 2, api.ErrShort},
		{"half a length of a large one", "\x01\x01\xac", two, 2, api.ErrShort},
		{"a first cell that is same", "\x00\x00\x00", two, 1, api.ErrKind},
		{"a first cell of 2", "\x00\x02\x00", two, 2, api.ErrRange},
		{"a second cell of 3", "\x01\x03", two, 1, api.ErrKind},
		{"a second cell of other bytes", "\x01\x03\n", two, 2, api.ErrForm},
		{"a length of 64 that is away", "\x01\x01\x40", two, 2, api.ErrRange},
		{"a length of 65 that stands there", "\x01\x43", two, 2, api.ErrRange},
		{"a length of 2049", "\x01\x02\x81\x10", two, 1, api.ErrRange},
		{"a length longer than it is", "\x01\x84\x00ab", two, 2, api.ErrOver},

		{"the relation ahead of the version", "\x01\x04ab", bad, 3, api.ErrRange},
		{"the relation ahead of no byte", "", bad, 1, api.ErrRange},
		{"the relation ahead of a bit behind", "\x04", bad, 1, api.ErrRange},
		{"the relation ahead of a cell", "\x00\x07", bad, 2, api.ErrRange},
		{"a column of no type ahead of no byte", "", noType, 3, api.ErrType},
		{"the version ahead of no byte", "", two, 3, api.ErrVersion},
		{"the version ahead of a bit behind", "\x04", two, 0, api.ErrVersion},
		{"the version ahead of a cell", "\x00\x07", two, 0, api.ErrVersion},
		{"no second byte ahead of a cell", "\x00", nine, 2, api.ErrShort},
		{"a bit behind ahead of no cell", "\x04", two, 2, api.ErrForm},
		{"a bit behind ahead of a cell", "\x04\x07", two, 2, api.ErrForm},
		{"the first of two cells", "\x00\x07\x03\n", two, 2, api.ErrRange},
		{"the first cell ahead of no second one", "\x00\x07", two, 2, api.ErrRange},
	} {
		in := prim.Read([]byte(x.b))
		w, holes := row.Take(in, x.r, x.version)
		if w != nil || holes != nil || in.Err() != x.e || in.Left() != 0 {
			t.Errorf("%s: %v, %v, error %d, not %d", x.name, w, holes, in.Err(), x.e)
		}
		taken(t, []byte(x.b), x.r, x.version)
	}
}

func TestP102GivenUp(t *testing.T) {
	for _, r := range []rel.Rel{made(value.Bool), wide(16, 3), made(value.Text, value.Bytes), broken(value.Bool), made(), wide(17, 0)} {
		for _, version := range versions {
			for _, b := range []string{"", "\x00", "\x01", "\x03", "\xff\xff", "\x00\x01\x41\x01\x41"} {
				in := prim.Read([]byte(b))
				in.Fail(api.ErrSum)
				if w, holes := row.Take(in, r, version); w != nil || holes != nil || in.Err() != api.ErrSum {
					t.Errorf("%q of %v, version %d: %v, %v, error %d", b, r, version, w, holes, in.Err())
				}
			}
		}
	}
}

func TestP102OneBehindTheOther(t *testing.T) {
	for version := uint8(1); version <= 2; version++ {
		type put struct {
			r rel.Rel
			w row.Row
		}
		var all []put
		var b []byte
		for _, r := range relations() {
			for _, w := range someRows(r, 6) {
				more, e := w.Encode(r, version)
				if e != api.OK {
					t.Fatalf("error %d", e)
				}
				b, all = append(b, more...), append(all, put{r, w})
			}
		}
		in := prim.Read(b)
		for _, x := range all {
			w, holes := row.Take(in, x.r, version)
			if o, e := w.Fill(holes, x.w.Texts()); e != api.OK || !equal(o, x.w) {
				t.Fatalf("%v in version %d: %v, error %d", x.w, version, o, e)
			}
		}
		// Behind the last one there is none.
		if e := in.End(); e != api.OK {
			t.Errorf("error %d", e)
		}
		if w, holes := row.Take(in, made(value.Bool), version); w != nil || holes != nil || in.Err() != api.ErrShort {
			t.Errorf("%v, %v, error %d", w, holes, in.Err())
		}
	}
}

func TestP103Fill(t *testing.T) {
	a, b, c := strings.Repeat("a", 65), strings.Repeat("b", 300), strings.Repeat("c", 65)
	w := row.Row{text(""), yes(1), raw(""), null, text("d")}
	for _, x := range []struct {
		name  string
		w     row.Row
		holes []row.Hole
		texts []string
		want  row.Row
		e     api.Errno
	}{
		{"no holes", w, nil, nil, w, api.OK},
		{"no holes of no cells", nil, nil, nil, nil, api.OK},
		{"one", w, []row.Hole{{Column: 0, Size: 65}}, []string{a}, row.Row{text(a), yes(1), raw(""), null, text("d")}, api.OK},
		{"two", w, []row.Hole{{Column: 0, Size: 65}, {Column: 2, Size: 300}}, []string{a, b}, row.Row{text(a), yes(1), raw(b), null, text("d")}, api.OK},
		{"two, turned round", w, []row.Hole{{Column: 2, Size: 300}, {Column: 0, Size: 65}}, []string{b, a}, row.Row{text(a), yes(1), raw(b), null, text("d")}, api.OK},
		{"the last one, that has a text", w, []row.Hole{{Column: 4, Size: 65}}, []string{a}, row.Row{text(""), yes(1), raw(""), null, text(a)}, api.OK},
		{"a short one", w, []row.Hole{{Column: 4, Size: 1}}, []string{"e"}, row.Row{text(""), yes(1), raw(""), null, text("e")}, api.OK},
		{"an empty one", w, []row.Hole{{Column: 4, Size: 0}}, []string{""}, row.Row{text(""), yes(1), raw(""), null, text("")}, api.OK},
		{"several of one column", w, []row.Hole{{Column: 0, Size: 65}, {Column: 2, Size: 65}, {Column: 0, Size: 300}, {Column: 0, Size: 65}}, []string{a, a, b, c}, row.Row{text(c), yes(1), raw(a), null, text("d")}, api.OK},
		{"cells of other kinds and types", w, []row.Hole{{Column: 1, Size: 2}, {Column: 3, Size: 1}}, []string{"ab", "c"}, row.Row{text(""), {Kind: cell.Full, Value: value.Value{Type: value.Bool, Int: 1, Text: "ab"}}, raw(""), {Value: value.Value{Text: "c"}}, text("d")}, api.OK},

		{"no texts", w, []row.Hole{{Column: 0, Size: 65}}, nil, nil, api.ErrCount},
		{"fewer", w, []row.Hole{{Column: 0, Size: 65}, {Column: 2, Size: 300}}, []string{a}, nil, api.ErrCount},
		{"more", w, []row.Hole{{Column: 0, Size: 65}}, []string{a, b}, nil, api.ErrCount},
		{"texts without holes", w, nil, []string{""}, nil, api.ErrCount},
		{"the column behind the last one", w, []row.Hole{{Column: 5, Size: 65}}, []string{a}, nil, api.ErrRange},
		{"a column far behind", w, []row.Hole{{Column: math.MaxInt, Size: 65}}, []string{a}, nil, api.ErrRange},
		{"the column -1", w, []row.Hole{{Column: -1, Size: 65}}, []string{a}, nil, api.ErrRange},
		{"the least column", w, []row.Hole{{Column: math.MinInt, Size: 65}}, []string{a}, nil, api.ErrRange},
		{"the second column not there", w, []row.Hole{{Column: 0, Size: 65}, {Column: 5, Size: 65}}, []string{a, a}, nil, api.ErrRange},
		{"a column of no cells", nil, []row.Hole{{Column: 0, Size: 65}}, []string{a}, nil, api.ErrRange},
		{"a shorter text", w, []row.Hole{{Column: 0, Size: 66}}, []string{a}, nil, api.ErrSplit},
		{"a longer text", w, []row.Hole{{Column: 0, Size: 64}}, []string{a}, nil, api.ErrSplit},
		{"a size below 0", w, []row.Hole{{Column: 0, Size: -1}}, []string{""}, nil, api.ErrSplit},
		{"a great size", w, []row.Hole{{Column: 0, Size: math.MaxInt}}, []string{a}, nil, api.ErrSplit},
		{"the second text", w, []row.Hole{{Column: 0, Size: 65}, {Column: 2, Size: 65}}, []string{a, b}, nil, api.ErrSplit},
		{"an earlier one of one column", w, []row.Hole{{Column: 0, Size: 65}, {Column: 0, Size: 65}}, []string{b, a}, nil, api.ErrSplit},

		{"the count ahead of a column", w, []row.Hole{{Column: 5, Size: 65}}, nil, nil, api.ErrCount},
		{"the count ahead of a text", w, []row.Hole{{Column: 0, Size: 1}}, []string{a, a}, nil, api.ErrCount},
		{"a column ahead of its text", w, []row.Hole{{Column: -1, Size: 1}}, []string{a}, nil, api.ErrRange},
		{"a column ahead of a text ahead", w, []row.Hole{{Column: 0, Size: 1}, {Column: 5, Size: 65}}, []string{a, a}, nil, api.ErrRange},
		{"a column ahead of a text behind", w, []row.Hole{{Column: 5, Size: 65}, {Column: 0, Size: 1}}, []string{a, a}, nil, api.ErrRange},
	} {
		o, e := x.w.Fill(x.holes, x.texts)
		if e != x.e || !equal(o, x.want) || e != api.OK && o != nil {
			t.Errorf("%s: %v, error %d, not %d", x.name, o, e, x.e)
		}
	}
}

func TestP104AsItWas(t *testing.T) {
	for _, r := range relations() {
		for _, w := range someRows(r, 30) {
			for version := uint8(1); version <= 2; version++ {
				b, e := w.Encode(r, version)
				if e != api.OK {
					t.Fatalf("%v of %v: error %d", w, r, e)
				}
				in := prim.Read(b)
				got, holes := row.Take(in, r, version)
				if in.End() != api.OK || !slices.Equal(holes, w.Holes()) || len(got.Holes()) != 0 {
					t.Fatalf("%v of %v, version %d: %v, error %d", w, r, version, holes, in.End())
				}
				if o, e := got.Fill(holes, w.Texts()); e != api.OK || !equal(o, w) || !o.Alike(w) {
					t.Fatalf("%v of %v, version %d: %v, error %d", w, r, version, o, e)
				}
			}
		}
	}
}

func TestP104FromNoOtherBytes(t *testing.T) {
	for k, r := range relations() {
		for _, w := range someRows(r, 6) {
			for version := uint8(1); version <= 2; version++ {
				b, _ := w.Encode(r, version)
				taken(t, append(bytes.Clone(b), 0), r, version)
				taken(t, append(bytes.Clone(b), b...), r, version)
				for n := range b {
					if e := taken(t, b[:n], r, version); e != api.ErrShort {
						t.Fatalf("%v of %v, version %d, cut to %d: error %d", w, r, version, n, e)
					}
					if (k+n)%3 != 0 && n > 2 {
						continue
					}
					for _, turn := range []byte{1, 2, 3, 64, 127, 128, 255} {
						b[n] ^= turn
						taken(t, b, r, version)
						b[n] ^= turn
					}
				}
			}
		}
	}
}

func TestP104AnyMap(t *testing.T) {
	// Of a bool in version 2 each byte is a cell.
	for n := 1; n <= 16; n++ {
		r := made(slices.Repeat([]uint8{value.Bool}, n)...)
		size := (n + 7) / 8
		for bits := range 1 << (8 * size) {
			if size == 2 && bits%5 != 0 {
				continue
			}
			b := append([]byte{byte(bits), byte(bits >> 8)}[:size], slices.Repeat([]byte{1}, 16)...)
			if e := taken(t, b, r, 2); (e == api.OK) != (bits < 1<<n) {
				t.Fatalf("%d columns, the map %x: error %d", n, bits, e)
			}
		}
	}
}

func TestR1AnyBytes(t *testing.T) {
	l := append(relations(), made(), wide(17, 0), broken(value.Text), made(0), made(7, value.Text))
	for seed := range uint32(1500) {
		b := sample.Mixed(int(seed%60), seed)
		r := l[int(seed)%len(l)]
		for _, version := range versions {
			taken(t, b, r, version)
			few := bytes.Clone(b)
			for k := range few {
				few[k] %= 4
			}
			taken(t, few, r, version)
		}
	}
}

func TestR1AnyRow(t *testing.T) {
	// Rows as long as can't be, and cells as they can't be.
	var w row.Row
	for kind := range uint8(9) {
		w = slices.Concat(w, wrong(kind), right(kind))
	}
	for _, r := range append(relations(), rel.Rel{}, made(), wide(17, 0), wide(200, 0), made(7)) {
		for _, o := range []row.Row{nil, w, w[:1], w[:len(r.Columns)%len(w)]} {
			if e := o.Fits(r); e != fitsByWords(o, r) {
				t.Fatalf("error %d", e)
			}
			if b, e := o.Encode(r, 2); e != fitsByWords(o, r) || e != api.OK && b != nil {
				t.Fatalf("%v, error %d", b, e)
			}
		}
	}
	if len(w.Holes()) != len(w.Texts()) || !w.Alike(w) {
		t.Error("not itself")
	}
}

func TestR3NoneAndEmpty(t *testing.T) {
	none, empty := row.Row(nil), row.Row{}
	if !none.Alike(empty) || !empty.Alike(none) || none.Fits(made(value.Int)) != empty.Fits(made(value.Int)) {
		t.Error("none and empty are not one")
	}
	if o, e := empty.Fill([]row.Hole{}, nil); len(o) != 0 || e != api.OK {
		t.Errorf("%v, error %d", o, e)
	}
	if o, e := none.Fill(nil, []string{}); len(o) != 0 || e != api.OK {
		t.Errorf("%v, error %d", o, e)
	}
}

func TestR4HandedIn(t *testing.T) {
	long := strings.Repeat("a", 65)
	r := made(value.Text, value.Bool, value.Bytes)
	w := row.Row{text(long), null, raw("b")}
	kept, keptRel := slices.Clone(w), made(value.Text, value.Bool, value.Bytes)
	b, _ := w.Encode(r, 2)
	holes, texts := w.Holes(), w.Texts()
	o, _ := w.Fill([]row.Hole{{Column: 0, Size: 2}, {Column: 2, Size: 1}}, []string{"cd", "e"})
	w.Fits(r)
	w.Alike(o)
	w.Fill(holes, nil)
	if !equal(w, kept) || !sample.EqualRel(r, keptRel) {
		t.Fatalf("%v of %v: what is handed in is changed", w, r)
	}
	in := prim.Read(b)
	got, gone := row.Take(in, r, 2)
	// What was handed in is changed afterwards.
	clear(b)
	clear(w)
	clear(r.Columns)
	filled, _ := got.Fill(gone, texts)
	clear(got)
	clear(texts)
	if !equal(o, row.Row{text("cd"), null, raw("e")}) || !equal(filled, kept) || !slices.Equal(holes, []row.Hole{{Column: 0, Size: 65}}) {
		t.Errorf("%v, %v, %v", o, filled, holes)
	}
}

func TestR4FillKeepsNothing(t *testing.T) {
	room := row.Row{text("a"), text("b"), text("room")}
	w := room[:2]
	holes, texts := []row.Hole{{Column: 1, Size: 1}}, []string{"c"}
	one, _ := w.Fill(holes, texts)
	none, _ := w.Fill(nil, nil)
	two, _ := w.Fill(holes, texts)
	clear(one)
	none[0] = same
	_ = append(one, null)
	_ = append(none, null)
	if !equal(room, row.Row{text("a"), text("b"), text("room")}) || !equal(two, row.Row{text("a"), text("c")}) || holes[0] != (row.Hole{Column: 1, Size: 1}) || texts[0] != "c" {
		t.Errorf("%v, %v: an answer shares memory", room, two)
	}
}

func TestR4Answers(t *testing.T) {
	long := strings.Repeat("a", 65)
	r := made(value.Text, value.Bool)
	w := row.Row{text(long), yes(1)}
	one, _ := w.Encode(r, 1)
	two, _ := w.Encode(r, 1)
	clear(one)
	_ = append(one, 9)
	if string(two) != "\x00\x02\x41\x01\x01" {
		t.Errorf("%v", two)
	}
	holes, texts := w.Holes(), w.Texts()
	holes[0], texts[0] = row.Hole{}, ""
	if w.Holes()[0] != (row.Hole{Column: 0, Size: 65}) || w.Texts()[0] != long || !equal(w, row.Row{text(long), yes(1)}) {
		t.Errorf("%v", w)
	}
	in := prim.Read(slices.Concat(two, two))
	a, ahead := row.Take(in, r, 1)
	b, behind := row.Take(in, r, 1)
	clear(a)
	clear(ahead)
	if !equal(b, row.Row{text(""), yes(1)}) || !slices.Equal(behind, []row.Hole{{Column: 0, Size: 65}}) {
		t.Errorf("%v, %v", b, behind)
	}
}

func TestR6Again(t *testing.T) {
	r := made(value.Bool, value.Text)
	w := row.Row{null, text("ab")}
	for range 3 {
		row.Take(prim.Read([]byte{0}), r, 1)
		w[:1].Encode(r, 2)
		b, e := w.Encode(r, 2)
		if e != api.OK || !bytes.Equal(b, []byte{1, 4, 97, 98}) {
			t.Errorf("%v, error %d", b, e)
		}
		in := prim.Read(b)
		if o, holes := row.Take(in, r, 2); !equal(o, w) || holes != nil || in.End() != api.OK {
			t.Errorf("%v, %v, error %d", o, holes, in.End())
		}
	}
}

func TestExample(t *testing.T) {
	r := made(value.Bool, value.Text)
	w := row.Row{null, text("ab")}
	if b, e := w.Encode(r, 2); e != api.OK || !bytes.Equal(b, []byte{1, 4, 97, 98}) {
		t.Errorf("%v, error %d", b, e)
	}
	in := prim.Read([]byte{1, 4, 97, 98})
	if o, holes := row.Take(in, r, 2); !equal(o, w) || holes != nil || in.End() != api.OK {
		t.Errorf("%v, %v, error %d", o, holes, in.End())
	}
}
