package row_test

import (
	"bytes"
	"math"
	"slices"
	"strings"
	"testing"

	"lacuna/api"
	"lacuna/cell"
	"lacuna/prim"
	"lacuna/rel"
	"lacuna/row"
	"lacuna/sample"
	"lacuna/value"
)

var (
	null     = cell.Cell{}
	same     = cell.Cell{Kind: cell.Same}
	negative = math.Copysign(0, -1)
	nan      = math.Float64frombits(0x7FF8000000000001)
	versions = []uint8{0, 1, 2, 3, 255}
	x63      = strings.Repeat("x", 63)
)

// fitsByWords is what P10.1 says that Fits answers.
func fitsByWords(w row.Row, r rel.Rel) api.Errno {
	if e := r.Right(); e != api.OK {
		return e
	}
	if len(w) != len(r.Columns) {
		return api.ErrCount
	}
	for k := range w {
		if e := cell.Right(w[k], r.Columns[k].Type); e != api.OK {
			return e
		}
	}
	return api.OK
}

func TestP101Fits(t *testing.T) {
	three := sample.Rel(value.Bool, value.Text, value.Int)
	full := row.Row{sample.Bool(1), sample.Text("a"), sample.Int(7)}
	with := func(at int, c cell.Cell) row.Row {
		w := slices.Clone(full)
		w[at] = c
		return w
	}
	noKey := sample.Rel(value.Bool)
	noKey.Identity = rel.Key
	for _, x := range []struct {
		name string
		w    row.Row
		r    rel.Rel
		e    api.Errno
	}{
		{"full", full, three, api.OK},
		{"all null", row.Row{null, null, null}, three, api.OK},
		{"same in a text", with(1, same), three, api.OK},
		{"one fewer", full[:2], three, api.ErrCount},
		{"one more", append(slices.Clone(full), null), three, api.ErrCount},
		{"none", nil, three, api.ErrCount},
		{"empty", row.Row{}, three, api.ErrCount},
		{"one more than 16", make(row.Row, 17), sample.Wide(16, 0), api.ErrCount},
		{"16 in 16", make(row.Row, 16), sample.Wide(16, 0), api.OK},
		{"the first one of another type", with(0, sample.Int(1)), three, api.ErrType},
		{"the first one of a kind there is not", with(0, cell.Cell{Kind: 3}), three, api.ErrKind},
		{"the last one same", with(2, same), three, api.ErrType},
		{"the last one null with a value", with(2, cell.Cell{Value: value.Value{Int: 1}}), three, api.ErrForm},
		{"the last one too long", row.Row{sample.Text(strings.Repeat("x", 2049))}, sample.Rel(value.Text), api.ErrLong},
		{"a bool of 2", with(0, sample.Bool(2)), three, api.ErrRange},
		{"2048 bytes", with(1, sample.Text(strings.Repeat("x", 2048))), three, api.OK},
		{"no relation", full, rel.Rel{}, api.ErrRange},
		{"an oid of 0", full, sample.Broken(value.Bool, value.Text, value.Int), api.ErrRange},
		{"no columns", nil, sample.Rel(), api.ErrCount},
		{"17 columns", make(row.Row, 17), sample.Wide(17, 0), api.ErrCount},
		{"a column of no type", full, sample.Rel(value.Bool, value.Text, 7), api.ErrType},
		{"identity key without a key", row.Row{sample.Bool(1)}, noKey, api.ErrKey},

		{"the relation ahead of the count", full[:1], sample.Broken(value.Bool, value.Text, value.Int), api.ErrRange},
		{"the relation ahead of a cell", with(0, cell.Cell{Kind: 3}), sample.Broken(value.Bool, value.Text, value.Int), api.ErrRange},
		{"the count ahead of a cell", with(0, cell.Cell{Kind: 3})[:2], three, api.ErrCount},
		{"the first of two", row.Row{{Kind: 3}, sample.Text("\n"), sample.Int(7)}, three, api.ErrKind},
		{"the first of two, turned round", row.Row{sample.Bool(1), sample.Text("\n"), {Kind: 3}}, three, api.ErrForm},
		{"the first and the last", row.Row{sample.Bool(2), sample.Text("a"), {Kind: 3}}, three, api.ErrRange},
	} {
		if e := x.w.Fits(x.r); e != x.e {
			t.Errorf("%s: %d, not %d", x.name, e, x.e)
		}
	}
}

func TestP101FitsByItsWords(t *testing.T) {
	for _, r := range sample.Rels() {
		for k, w := range sample.Rows(r, 12) {
			if e := w.Fits(r); e != api.OK {
				t.Fatalf("%v of %v: error %d", w, r, e)
			}
			at := k % len(w)
			for _, c := range sample.WrongCells(r.Columns[at].Type) {
				o := slices.Clone(w)
				o[at] = c
				if e := o.Fits(r); e != cell.Right(c, r.Columns[at].Type) || e == api.OK {
					t.Fatalf("%v of %v: error %d", o, r, e)
				}
				// Another one is wrong, too.
				o[len(o)-1] = cell.Cell{Kind: 4}
				if e := o.Fits(r); e != fitsByWords(o, r) {
					t.Fatalf("%v of %v: error %d, not %d", o, r, e, fitsByWords(o, r))
				}
			}
		}
	}
}

// Each cell, in columns of each type.
func TestP101FitsEachCell(t *testing.T) {
	for kind := uint8(value.Bool); kind <= value.Bytes; kind++ {
		for from := uint8(value.Bool); from <= value.Bytes; from++ {
			for _, c := range slices.Concat(sample.RightCells(from), sample.WrongCells(from)) {
				if e := (row.Row{c}).Fits(sample.Rel(kind)); e != cell.Right(c, kind) {
					t.Fatalf("%v in %d: %d, not %d", c, kind, e, cell.Right(c, kind))
				}
			}
		}
	}
}

func TestP101Alike(t *testing.T) {
	w := row.Row{sample.Bool(1), sample.Float(nan), sample.Text(x63 + "ab"), null, same}
	with := func(at int, c cell.Cell) row.Row {
		o := slices.Clone(w)
		o[at] = c
		return o
	}
	for name, o := range map[string]row.Row{
		"none":                w[:0],
		"one fewer":           w[:4],
		"one more":            append(slices.Clone(w), null),
		"the first one":       with(0, sample.Bool(0)),
		"a NaN of other bits": with(1, sample.Float(math.Float64frombits(0x7FF8000000000002))),
		"a float as an int":   with(1, sample.Int(0)),
		"a text's last byte":  with(2, sample.Text(x63+"ac")),
		"a text as bytes":     with(2, sample.Bytes(x63+"ab")),
		"null and same":       with(3, same),
		"null with a value":   with(3, cell.Cell{Value: value.Value{Int: 1}}),
		"the last one":        with(4, null),
		"turned round":        {same, null, sample.Text(x63 + "ab"), sample.Float(nan), sample.Bool(1)},
	} {
		if w.Alike(o) || o.Alike(w) {
			t.Errorf("%s: alike", name)
		}
		if !o.Alike(o) {
			t.Errorf("%s: not like itself", name)
		}
	}
	if !w.Alike(slices.Clone(w)) || !w.Alike(w) {
		t.Error("not alike")
	}
	if !(row.Row{sample.Float(0)}).Alike(row.Row{sample.Float(0)}) || (row.Row{sample.Float(0)}).Alike(row.Row{sample.Float(negative)}) {
		t.Error("0 and -0")
	}
	r := sample.Wide(9, 2)
	l := sample.Rows(r, 40)
	for _, a := range l {
		for _, b := range l {
			if a.Alike(b) != sample.EqualRow(a, b) {
				t.Fatalf("%v and %v", a, b)
			}
		}
	}
}

func TestP101HolesAndTexts(t *testing.T) {
	long, longer := strings.Repeat("a", 65), strings.Repeat("b", 2048)
	for _, x := range []struct {
		name  string
		w     row.Row
		holes []row.Hole
		texts []string
	}{
		{"no cells", nil, nil, nil},
		{"none is full", row.Row{null, same}, nil, nil},
		{"none is large", row.Row{sample.Bool(1), sample.Int(65), sample.Text(x63 + "x"), sample.Bytes(x63 + "x"), sample.Text("")}, nil, nil},
		{"one alone", row.Row{sample.Text(long)}, []row.Hole{{Column: 0, Size: 65}}, []string{long}},
		{"the last one", row.Row{sample.Text(x63 + "x"), sample.Bytes(long)}, []row.Hole{{Column: 1, Size: 65}}, []string{long}},
		{"several", row.Row{sample.Bytes(longer), sample.Bool(1), sample.Text(long), null, same, sample.Text("a"), sample.Text(longer)}, []row.Hole{{Column: 0, Size: 2048}, {Column: 2, Size: 65}, {Column: 6, Size: 2048}}, []string{longer, long, longer}},
		{"equal ones", row.Row{sample.Text(long), sample.Text(long)}, []row.Hole{{Column: 0, Size: 65}, {Column: 1, Size: 65}}, []string{long, long}},
		{"cells that may not be", row.Row{{Kind: cell.Null, Value: value.Value{Type: value.Text, Text: long}}, {Kind: 3, Value: value.Value{Type: value.Text, Text: long}}, cell.Of(value.Value{Type: value.Int, Text: long})}, nil, nil},
		{"one longer than can be", row.Row{sample.Bytes(longer + "x")}, []row.Hole{{Column: 0, Size: 2049}}, []string{longer + "x"}},
	} {
		if l := x.w.Holes(); !slices.Equal(l, x.holes) {
			t.Errorf("%s: %v", x.name, l)
		}
		if l := x.w.Texts(); !slices.Equal(l, x.texts) {
			t.Errorf("%s: %q", x.name, l)
		}
	}
	for _, r := range sample.Rels() {
		for _, w := range sample.Rows(r, 30) {
			var holes []row.Hole
			var texts []string
			for k, c := range w {
				if c.Kind == 2 && c.Value.Type >= 5 && len(c.Value.Text) > 64 {
					holes, texts = append(holes, row.Hole{Column: k, Size: len(c.Value.Text)}), append(texts, c.Value.Text)
				}
			}
			if !slices.Equal(w.Holes(), holes) || !slices.Equal(w.Texts(), texts) {
				t.Fatalf("%v: %v", w, w.Holes())
			}
		}
	}
}

func TestP102Encode(t *testing.T) {
	long := strings.Repeat("a", 300)
	x64 := x63 + "x"
	bools := slices.Repeat([]uint8{value.Bool}, 16)
	for _, x := range []struct {
		name     string
		r        rel.Rel
		w        row.Row
		one, two string
	}{
		{"one null", sample.Rel(value.Int), row.Row{null}, "\x01", "\x01"},
		{"one bool", sample.Rel(value.Bool), row.Row{sample.Bool(1)}, "\x00\x01\x01", "\x00\x01"},
		{"one int", sample.Rel(value.Int), row.Row{sample.Int(-1)}, "\x00\x01\xff\xff\xff\xff\xff\xff\xff\xff", "\x00\x01"},
		{"one float", sample.Rel(value.Float), row.Row{sample.Float(2)}, "\x00\x01\x00\x00\x00\x00\x00\x00\x00\x40", "\x00\x40"},
		{"one complex", sample.Rel(value.Complex), row.Row{sample.Complex(2i)}, "\x00\x01\x00\x00\x00\x00\x00\x00\x00\x00\x00\x00\x00\x00\x00\x00\x00\x40", "\x00\x02\x40"},
		{"one text that is same", sample.Rel(value.Text), row.Row{same}, "\x00\x00", "\x00\x00"},
		{"bytes that are same", sample.Rel(value.Bytes), row.Row{same}, "\x00\x00", "\x00\x00"},
		{"an empty text", sample.Rel(value.Text), row.Row{sample.Text("")}, "\x00\x01\x00", "\x00\x02"},
		{"64 bytes", sample.Rel(value.Text), row.Row{sample.Text(x64)}, "\x00\x01\x40" + x64, "\x00\x42" + x64},
		{"65 bytes", sample.Rel(value.Text), row.Row{sample.Text(x64 + "x")}, "\x00\x02\x41", "\x00\x01\x41"},
		{"any 64 bytes", sample.Rel(value.Bytes), row.Row{sample.Bytes(x63 + "\x00")}, "\x00\x01\x40" + x63 + "\x00", "\x00\x42" + x63 + "\x00"},
		{"any 65 bytes", sample.Rel(value.Bytes), row.Row{sample.Bytes(x64 + "\x00")}, "\x00\x02\x41", "\x00\x01\x41"},
		{"null in the middle", sample.Rel(value.Bool, value.Int, value.Text), row.Row{sample.Bool(0), null, sample.Text("a")}, "\x02\x01\x00\x01\x01a", "\x02\x00\x03a"},
		{"null at the end", sample.Rel(value.Bool, value.Int, value.Text), row.Row{sample.Bool(1), sample.Int(0), null}, "\x04\x01\x01\x01\x00\x00\x00\x00\x00\x00\x00\x00", "\x04\x01\x00"},
		{"several large ones", sample.Rel(value.Text, value.Bool, value.Bytes, value.Text), row.Row{sample.Text(long), sample.Bool(1), sample.Bytes(long), sample.Text("b")}, "\x00\x02\xac\x02\x01\x01\x02\xac\x02\x01\x01b", "\x00\x01\xac\x02\x01\x01\xac\x02\x03b"},
		{"8, all null", sample.Rel(bools[:8]...), make(row.Row, 8), "\xff", "\xff"},
		{"9, all null", sample.Rel(bools[:9]...), make(row.Row, 9), "\xff\x01", "\xff\x01"},
		{"16, all null", sample.Rel(bools...), make(row.Row, 16), "\xff\xff", "\xff\xff"},
		{"8, none null", sample.Rel(bools[:8]...), slices.Repeat(row.Row{sample.Bool(1)}, 8), "\x00" + strings.Repeat("\x01\x01", 8), "\x00" + strings.Repeat("\x01", 8)},
		{"9, none null", sample.Rel(bools[:9]...), slices.Repeat(row.Row{sample.Bool(1)}, 9), "\x00\x00" + strings.Repeat("\x01\x01", 9), "\x00\x00" + strings.Repeat("\x01", 9)},
		{"16, none null", sample.Rel(bools...), slices.Repeat(row.Row{sample.Bool(0)}, 16), "\x00\x00" + strings.Repeat("\x01\x00", 16), "\x00\x00" + strings.Repeat("\x00", 16)},
		{"9, but the last one null", sample.Rel(bools[:9]...), append(make(row.Row, 8), sample.Bool(1)), "\xff\x00\x01\x01", "\xff\x00\x01"},
		{"16, two not null", sample.Rel(bools...), slices.Concat(row.Row{sample.Bool(1)}, make(row.Row, 14), row.Row{sample.Bool(0)}), "\xfe\x7f\x01\x01\x01\x00", "\xfe\x7f\x01\x00"},
	} {
		for version, want := range map[uint8]string{1: x.one, 2: x.two} {
			if b, e := x.w.Encode(x.r, version); e != api.OK || string(b) != want {
				t.Errorf("%s in version %d: %v, error %d", x.name, version, b, e)
			}
			in := prim.Read([]byte(want))
			w, holes := row.Take(in, x.r, version)
			if in.End() != api.OK || !slices.Equal(holes, x.w.Holes()) {
				t.Errorf("%s in version %d: %v, error %d", x.name, version, holes, in.End())
			}
			if w, e := w.Fill(holes, x.w.Texts()); e != api.OK || !sample.EqualRow(w, x.w) {
				t.Errorf("%s in version %d: %v, error %d", x.name, version, w, e)
			}
		}
	}
}

// encodeByWords is what P10.2 says that Encode answers.
func encodeByWords(w row.Row, r rel.Rel, version uint8) ([]byte, api.Errno) {
	if version != 1 && version != 2 {
		return nil, api.ErrVersion
	}
	if e := fitsByWords(w, r); e != api.OK {
		return nil, e
	}
	b := make([]byte, (len(w)+7)/8)
	for k, c := range w {
		if c.Kind == 0 {
			b[k/8] += 1 << (k % 8)
			continue
		}
		more, _ := cell.Put(nil, c, r.Columns[k].Type, version)
		b = append(b, more...)
	}
	return b, api.OK
}

func TestP102EncodeByItsWords(t *testing.T) {
	for _, r := range sample.Rels() {
		for k, w := range sample.Rows(r, 12) {
			broke := slices.Clone(w)
			at := k % len(w)
			cells := sample.WrongCells(r.Columns[at].Type)
			broke[at] = cells[k%len(cells)]
			for _, o := range []row.Row{w, broke, w[:len(w)-1], append(slices.Clone(w), null)} {
				for _, version := range versions {
					b, e := o.Encode(r, version)
					want, err := encodeByWords(o, r, version)
					if e != err || !bytes.Equal(b, want) || e != api.OK && b != nil {
						t.Fatalf("%v of %v, version %d: %v, error %d, not %v, %d", o, r, version, b, e, want, err)
					}
				}
			}
		}
	}
}

func TestP102EncodeWrong(t *testing.T) {
	two := sample.Rel(value.Bool, value.Text)
	full := row.Row{sample.Bool(1), sample.Text("a")}
	for _, x := range []struct {
		name    string
		w       row.Row
		r       rel.Rel
		version uint8
		e       api.Errno
	}{
		{"the version 0", full, two, 0, api.ErrVersion},
		{"the version 3", full, two, 3, api.ErrVersion},
		{"the version 255", full, two, 255, api.ErrVersion},
		{"all null, the version 0", make(row.Row, 2), two, 0, api.ErrVersion},
		{"all null, the version 3", make(row.Row, 2), two, 3, api.ErrVersion},
		{"a wrong relation", full, sample.Broken(value.Bool, value.Text), 1, api.ErrRange},
		{"one fewer", full[:1], two, 2, api.ErrCount},
		{"one more", append(slices.Clone(full), null), two, 2, api.ErrCount},
		{"none", nil, two, 1, api.ErrCount},
		{"none of no columns", nil, sample.Rel(), 1, api.ErrCount},
		{"17 of 17 columns", make(row.Row, 17), sample.Wide(17, 0), 1, api.ErrCount},
		{"a wrong cell", row.Row{sample.Bool(1), sample.Text("\n")}, two, 1, api.ErrForm},

		{"the version ahead of the relation", full, sample.Broken(value.Bool, value.Text), 3, api.ErrVersion},
		{"the version ahead of the count", full[:1], two, 0, api.ErrVersion},
		{"the version ahead of a cell", row.Row{{Kind: 3}, null}, two, 3, api.ErrVersion},
		{"the relation ahead of the count", full[:1], sample.Broken(value.Bool, value.Text), 1, api.ErrRange},
		{"the relation ahead of a cell", row.Row{{Kind: 3}, null}, sample.Broken(value.Bool, value.Text), 2, api.ErrRange},
		{"the count ahead of a cell", row.Row{{Kind: 3}}, two, 2, api.ErrCount},
		{"the first of two cells", row.Row{sample.Bool(2), {Kind: 3}}, two, 2, api.ErrRange},
	} {
		if b, e := x.w.Encode(x.r, x.version); b != nil || e != x.e {
			t.Errorf("%s: %v, error %d, not %d", x.name, b, e, x.e)
		}
	}
}

// takeByWords is what P10.2 says that Take answers, how many bytes are taken then, and with what it gives up.
func takeByWords(b []byte, r rel.Rel, version uint8) (row.Row, []row.Hole, int, api.Errno) {
	bad := func(e api.Errno) (row.Row, []row.Hole, int, api.Errno) { return nil, nil, 0, e }
	if e := r.Right(); e != api.OK {
		return bad(e)
	}
	if version != 1 && version != 2 {
		return bad(api.ErrVersion)
	}
	n := len(r.Columns)
	at := 1
	if n > 8 {
		at = 2
	}
	if len(b) < at {
		return bad(api.ErrShort)
	}
	bit := func(k int) bool { return b[k/8]>>(k%8)%2 == 1 }
	for k := n; k < 8*at; k++ {
		if bit(k) {
			return bad(api.ErrForm)
		}
	}
	var w row.Row
	var holes []row.Hole
	for k := range n {
		if bit(k) {
			w = append(w, cell.Cell{})
			continue
		}
		in := prim.Read(b[at:])
		c, size := cell.Take(in, r.Columns[k].Type, version)
		if in.Err() != api.OK {
			return bad(in.Err())
		}
		if size != 0 {
			holes = append(holes, row.Hole{Column: k, Size: size})
		}
		w = append(w, c)
		at = len(b) - in.Left()
	}
	return w, holes, at, api.OK
}

// taken holds Take against the words, and what it takes, when it is filled, against Encode.
func taken(t *testing.T, b []byte, r rel.Rel, version uint8) api.Errno {
	t.Helper()
	in := prim.Read(b)
	w, holes := row.Take(in, r, version)
	want, gone, size, e := takeByWords(b, r, version)
	if in.Err() != e || !sample.EqualRow(w, want) || !slices.Equal(holes, gone) || e != api.OK && (w != nil || holes != nil) {
		t.Fatalf("%v of %v, version %d: %v, %v, error %d, not %v, %v, %d", b, r, version, w, holes, in.Err(), want, gone, e)
	}
	if e != api.OK {
		return e
	}
	if len(b)-in.Left() != size {
		t.Fatalf("%v of %v, version %d: %d bytes left", b, r, version, in.Left())
	}
	var texts []string
	for _, h := range holes {
		texts = append(texts, strings.Repeat("x", h.Size))
	}
	full, e := w.Fill(holes, texts)
	if e != api.OK {
		t.Fatalf("%v: filled with error %d", w, e)
	}
	if back, e := full.Encode(r, version); e != api.OK || !bytes.Equal(back, b[:size]) {
		t.Fatalf("%v of %v, version %d: encoded as %v, error %d", b, r, version, back, e)
	}
	return api.OK
}

func TestP102Take(t *testing.T) {
	r := sample.Rel(value.Text, value.Bool, value.Bytes, value.Int)
	for _, x := range []struct {
		name    string
		b       string
		version uint8
		w       row.Row
		holes   []row.Hole
	}{
		{"all null", "\x0f", 1, make(row.Row, 4), nil},
		{"all null in version 2", "\x0f", 2, make(row.Row, 4), nil},
		{"the first one alone", "\x0e\x01\x01a", 1, row.Row{sample.Text("a"), null, null, null}, nil},
		{"the last one alone in version 2", "\x07\x01", 2, row.Row{null, null, null, sample.Int(-1)}, nil},
		{"two same ones", "\x0a\x00\x00", 1, row.Row{same, null, same, null}, nil},
		{"two same ones in version 2", "\x0a\x00\x00", 2, row.Row{same, null, same, null}, nil},
		{"a large one", "\x0c\x02\x41\x01\x00", 1, row.Row{sample.Text(""), sample.Bool(0), null, null}, []row.Hole{{Column: 0, Size: 65}}},
		{"large ones in version 2", "\x00\x01\x41\x01\x01\xac\x02\x0e", 2, row.Row{sample.Text(""), sample.Bool(1), sample.Bytes(""), sample.Int(7)}, []row.Hole{{Column: 0, Size: 65}, {Column: 2, Size: 300}}},
		{"an empty text is no hole", "\x0e\x02", 2, row.Row{sample.Text(""), null, null, null}, nil},
	} {
		in := prim.Read([]byte(x.b + "\x09\x09"))
		w, holes := row.Take(in, r, x.version)
		if !sample.EqualRow(w, x.w) || !slices.Equal(holes, x.holes) || in.Err() != api.OK || in.Left() != 2 {
			t.Errorf("%s: %v, %v, error %d, %d bytes left", x.name, w, holes, in.Err(), in.Left())
		}
	}
}

func TestP102TakeWrong(t *testing.T) {
	two := sample.Rel(value.Bool, value.Text)
	nine := sample.Wide(9, 0)
	bad := sample.Broken(value.Bool, value.Text)
	noType := sample.Rel(value.Bool, 7)
	for _, x := range []struct {
		name    string
		b       string
		r       rel.Rel
		version uint8
		e       api.Errno
	}{
		{"a wrong relation", "\x01\x04ab", bad, 2, api.ErrRange},
		{"a relation without columns", "", sample.Rel(), 1, api.ErrCount},
		{"a relation of 17 columns", "\xff\xff\x01", sample.Wide(17, 0), 1, api.ErrCount},
		{"a column of no type", "\x03", noType, 1, api.ErrType},
		{"the version 0", "\x01\x04ab", two, 0, api.ErrVersion},
		{"the version 3", "\x01\x04ab", two, 3, api.ErrVersion},
		{"all null, the version 0", "\x03", two, 0, api.ErrVersion},
		{"all null, the version 3", "\x03", two, 3, api.ErrVersion},
		{"no byte", "", two, 1, api.ErrShort},
		{"no byte of 9 columns", "", nine, 2, api.ErrShort},
		{"one byte of 9 columns", "\xff", nine, 1, api.ErrShort},
		{"one byte of 16 columns", "\xff", sample.Wide(16, 0), 2, api.ErrShort},
		{"a bit behind", "\x04", two, 1, api.ErrForm},
		{"another bit behind", "\x83", two, 2, api.ErrForm},
		{"all bits", "\xff", two, 1, api.ErrForm},
		{"a bit behind 9 columns", "\xff\x03", nine, 1, api.ErrForm},
		{"the last bit behind 9 columns", "\xff\x81", nine, 2, api.ErrForm},
		{"a bit behind 15 columns", "\xff\xff", sample.Wide(15, 0), 2, api.ErrForm},
		{"no first cell", "\x00", two, 1, api.ErrShort},
		{"half a first cell", "\x00\x01", two, 1, api.ErrShort},
		{"no second cell", "\x00\x01\x01", two, 1, api.ErrShort},
		{"half a second cell", "\x00\x01\x01\x01", two, 1, api.ErrShort},
		{"a second cell without its bytes", "\x00\x01\x01\x01\x02a", two, 1, api.ErrShort},
		{"no first cell in version 2", "\x00", two, 2, api.ErrShort},
		{"no second cell in version 2", "\x00\x01", two, 2, api.ErrShort},
		{"a second cell without its bytes in version 2", "\x00\x01\x04a", two, 2, api.ErrShort},
		{"a large one without its length", "\x01\x01", two, 2, api.ErrShort},
		{"half a length of a large one", "\x01\x01\xac", two, 2, api.ErrShort},
		{"a first cell that is same", "\x00\x00\x00", two, 1, api.ErrKind},
		{"a first cell of 2", "\x00\x02\x00", two, 2, api.ErrRange},
		{"a second cell of 3", "\x01\x03", two, 1, api.ErrKind},
		{"a second cell of other bytes", "\x01\x03\n", two, 2, api.ErrForm},
		{"a length of 64 that is away", "\x01\x01\x40", two, 2, api.ErrRange},
		{"a length of 65 that stands there", "\x01\x43", two, 2, api.ErrRange},
		{"a length of 2049", "\x01\x02\x81\x10", two, 1, api.ErrRange},
		{"a length longer than it is", "\x01\x84\x00ab", two, 2, api.ErrOver},

		{"the relation ahead of the version", "\x01\x04ab", bad, 3, api.ErrRange},
		{"the relation ahead of no byte", "", bad, 1, api.ErrRange},
		{"the relation ahead of a bit behind", "\x04", bad, 1, api.ErrRange},
		{"the relation ahead of a cell", "\x00\x07", bad, 2, api.ErrRange},
		{"a column of no type ahead of no byte", "", noType, 3, api.ErrType},
		{"the version ahead of no byte", "", two, 3, api.ErrVersion},
		{"the version ahead of a bit behind", "\x04", two, 0, api.ErrVersion},
		{"the version ahead of a cell", "\x00\x07", two, 0, api.ErrVersion},
		{"no second byte ahead of a cell", "\x00", nine, 2, api.ErrShort},
		{"a bit behind ahead of no cell", "\x04", two, 2, api.ErrForm},
		{"a bit behind ahead of a cell", "\x04\x07", two, 2, api.ErrForm},
		{"the first of two cells", "\x00\x07\x03\n", two, 2, api.ErrRange},
		{"the first cell ahead of no second one", "\x00\x07", two, 2, api.ErrRange},
	} {
		in := prim.Read([]byte(x.b))
		w, holes := row.Take(in, x.r, x.version)
		if w != nil || holes != nil || in.Err() != x.e || in.Left() != 0 {
			t.Errorf("%s: %v, %v, error %d, not %d", x.name, w, holes, in.Err(), x.e)
		}
		taken(t, []byte(x.b), x.r, x.version)
	}
}

func TestP102GivenUp(t *testing.T) {
	for _, r := range []rel.Rel{sample.Rel(value.Bool), sample.Wide(16, 3), sample.Rel(value.Text, value.Bytes), sample.Broken(value.Bool), sample.Rel(), sample.Wide(17, 0)} {
		for _, version := range versions {
			for _, b := range []string{"", "\x00", "\x01", "\x03", "\xff\xff", "\x00\x01\x41\x01\x41"} {
				in := prim.Read([]byte(b))
				in.Fail(api.ErrSum)
				if w, holes := row.Take(in, r, version); w != nil || holes != nil || in.Err() != api.ErrSum {
					t.Errorf("%q of %v, version %d: %v, %v, error %d", b, r, version, w, holes, in.Err())
				}
			}
		}
	}
}

func TestP102OneBehindTheOther(t *testing.T) {
	for version := uint8(1); version <= 2; version++ {
		type put struct {
			r rel.Rel
			w row.Row
		}
		var all []put
		var b []byte
		for _, r := range sample.Rels() {
			for _, w := range sample.Rows(r, 6) {
				more, e := w.Encode(r, version)
				if e != api.OK {
					t.Fatalf("error %d", e)
				}
				b, all = append(b, more...), append(all, put{r, w})
			}
		}
		in := prim.Read(b)
		for _, x := range all {
			w, holes := row.Take(in, x.r, version)
			if o, e := w.Fill(holes, x.w.Texts()); e != api.OK || !sample.EqualRow(o, x.w) {
				t.Fatalf("%v in version %d: %v, error %d", x.w, version, o, e)
			}
		}
		// Behind the last one there is none.
		if e := in.End(); e != api.OK {
			t.Errorf("error %d", e)
		}
		if w, holes := row.Take(in, sample.Rel(value.Bool), version); w != nil || holes != nil || in.Err() != api.ErrShort {
			t.Errorf("%v, %v, error %d", w, holes, in.Err())
		}
	}
}

func TestP103Fill(t *testing.T) {
	a, b, c := strings.Repeat("a", 65), strings.Repeat("b", 300), strings.Repeat("c", 65)
	w := row.Row{sample.Text(""), sample.Bool(1), sample.Bytes(""), null, sample.Text("d")}
	for _, x := range []struct {
		name  string
		w     row.Row
		holes []row.Hole
		texts []string
		want  row.Row
		e     api.Errno
	}{
		{"no holes", w, nil, nil, w, api.OK},
		{"no holes of no cells", nil, nil, nil, nil, api.OK},
		{"one", w, []row.Hole{{Column: 0, Size: 65}}, []string{a}, row.Row{sample.Text(a), sample.Bool(1), sample.Bytes(""), null, sample.Text("d")}, api.OK},
		{"two", w, []row.Hole{{Column: 0, Size: 65}, {Column: 2, Size: 300}}, []string{a, b}, row.Row{sample.Text(a), sample.Bool(1), sample.Bytes(b), null, sample.Text("d")}, api.OK},
		{"two, turned round", w, []row.Hole{{Column: 2, Size: 300}, {Column: 0, Size: 65}}, []string{b, a}, row.Row{sample.Text(a), sample.Bool(1), sample.Bytes(b), null, sample.Text("d")}, api.OK},
		{"the last one, that has a text", w, []row.Hole{{Column: 4, Size: 65}}, []string{a}, row.Row{sample.Text(""), sample.Bool(1), sample.Bytes(""), null, sample.Text(a)}, api.OK},
		{"a short one", w, []row.Hole{{Column: 4, Size: 1}}, []string{"e"}, row.Row{sample.Text(""), sample.Bool(1), sample.Bytes(""), null, sample.Text("e")}, api.OK},
		{"an empty one", w, []row.Hole{{Column: 4, Size: 0}}, []string{""}, row.Row{sample.Text(""), sample.Bool(1), sample.Bytes(""), null, sample.Text("")}, api.OK},
		{"several of one column", w, []row.Hole{{Column: 0, Size: 65}, {Column: 2, Size: 65}, {Column: 0, Size: 300}, {Column: 0, Size: 65}}, []string{a, a, b, c}, row.Row{sample.Text(c), sample.Bool(1), sample.Bytes(a), null, sample.Text("d")}, api.OK},
		{"cells of other kinds and types", w, []row.Hole{{Column: 1, Size: 2}, {Column: 3, Size: 1}}, []string{"ab", "c"}, row.Row{sample.Text(""), {Kind: cell.Full, Value: value.Value{Type: value.Bool, Int: 1, Text: "ab"}}, sample.Bytes(""), {Value: value.Value{Text: "c"}}, sample.Text("d")}, api.OK},

		{"no texts", w, []row.Hole{{Column: 0, Size: 65}}, nil, nil, api.ErrCount},
		{"fewer", w, []row.Hole{{Column: 0, Size: 65}, {Column: 2, Size: 300}}, []string{a}, nil, api.ErrCount},
		{"more", w, []row.Hole{{Column: 0, Size: 65}}, []string{a, b}, nil, api.ErrCount},
		{"texts without holes", w, nil, []string{""}, nil, api.ErrCount},
		{"the column behind the last one", w, []row.Hole{{Column: 5, Size: 65}}, []string{a}, nil, api.ErrRange},
		{"a column far behind", w, []row.Hole{{Column: math.MaxInt, Size: 65}}, []string{a}, nil, api.ErrRange},
		{"the column -1", w, []row.Hole{{Column: -1, Size: 65}}, []string{a}, nil, api.ErrRange},
		{"the least column", w, []row.Hole{{Column: math.MinInt, Size: 65}}, []string{a}, nil, api.ErrRange},
		{"the second column not there", w, []row.Hole{{Column: 0, Size: 65}, {Column: 5, Size: 65}}, []string{a, a}, nil, api.ErrRange},
		{"a column of no cells", nil, []row.Hole{{Column: 0, Size: 65}}, []string{a}, nil, api.ErrRange},
		{"a shorter text", w, []row.Hole{{Column: 0, Size: 66}}, []string{a}, nil, api.ErrSplit},
		{"a longer text", w, []row.Hole{{Column: 0, Size: 64}}, []string{a}, nil, api.ErrSplit},
		{"a size below 0", w, []row.Hole{{Column: 0, Size: -1}}, []string{""}, nil, api.ErrSplit},
		{"a great size", w, []row.Hole{{Column: 0, Size: math.MaxInt}}, []string{a}, nil, api.ErrSplit},
		{"the second text", w, []row.Hole{{Column: 0, Size: 65}, {Column: 2, Size: 65}}, []string{a, b}, nil, api.ErrSplit},
		{"an earlier one of one column", w, []row.Hole{{Column: 0, Size: 65}, {Column: 0, Size: 65}}, []string{b, a}, nil, api.ErrSplit},

		{"the count ahead of a column", w, []row.Hole{{Column: 5, Size: 65}}, nil, nil, api.ErrCount},
		{"the count ahead of a text", w, []row.Hole{{Column: 0, Size: 1}}, []string{a, a}, nil, api.ErrCount},
		{"a column ahead of its text", w, []row.Hole{{Column: -1, Size: 1}}, []string{a}, nil, api.ErrRange},
		{"a column ahead of a text ahead", w, []row.Hole{{Column: 0, Size: 1}, {Column: 5, Size: 65}}, []string{a, a}, nil, api.ErrRange},
		{"a column ahead of a text behind", w, []row.Hole{{Column: 5, Size: 65}, {Column: 0, Size: 1}}, []string{a, a}, nil, api.ErrRange},
	} {
		o, e := x.w.Fill(x.holes, x.texts)
		if e != x.e || !sample.EqualRow(o, x.want) || e != api.OK && o != nil {
			t.Errorf("%s: %v, error %d, not %d", x.name, o, e, x.e)
		}
	}
}

func TestP104AsItWas(t *testing.T) {
	for _, r := range sample.Rels() {
		for _, w := range sample.Rows(r, 30) {
			for version := uint8(1); version <= 2; version++ {
				b, e := w.Encode(r, version)
				if e != api.OK {
					t.Fatalf("%v of %v: error %d", w, r, e)
				}
				in := prim.Read(b)
				got, holes := row.Take(in, r, version)
				if in.End() != api.OK || !slices.Equal(holes, w.Holes()) || len(got.Holes()) != 0 {
					t.Fatalf("%v of %v, version %d: %v, error %d", w, r, version, holes, in.End())
				}
				if o, e := got.Fill(holes, w.Texts()); e != api.OK || !sample.EqualRow(o, w) || !o.Alike(w) {
					t.Fatalf("%v of %v, version %d: %v, error %d", w, r, version, o, e)
				}
			}
		}
	}
}

func TestP104FromNoOtherBytes(t *testing.T) {
	for k, r := range sample.Rels() {
		for _, w := range sample.Rows(r, 6) {
			for version := uint8(1); version <= 2; version++ {
				b, _ := w.Encode(r, version)
				taken(t, append(bytes.Clone(b), 0), r, version)
				taken(t, append(bytes.Clone(b), b...), r, version)
				for n := range b {
					if e := taken(t, b[:n], r, version); e != api.ErrShort {
						t.Fatalf("%v of %v, version %d, cut to %d: error %d", w, r, version, n, e)
					}
					if (k+n)%3 != 0 && n > 2 {
						continue
					}
					for _, turn := range []byte{1, 2, 3, 64, 127, 128, 255} {
						b[n] ^= turn
						taken(t, b, r, version)
						b[n] ^= turn
					}
				}
			}
		}
	}
}

func TestP104AnyMap(t *testing.T) {
	// Of a bool in version 2 each byte is a cell.
	for n := 1; n <= 16; n++ {
		r := sample.Rel(slices.Repeat([]uint8{value.Bool}, n)...)
		size := (n + 7) / 8
		for bits := range 1 << (8 * size) {
			if size == 2 && bits%5 != 0 {
				continue
			}
			b := append([]byte{byte(bits), byte(bits >> 8)}[:size], slices.Repeat([]byte{1}, 16)...)
			if e := taken(t, b, r, 2); (e == api.OK) != (bits < 1<<n) {
				t.Fatalf("%d columns, the map %x: error %d", n, bits, e)
			}
		}
	}
}

func TestR1AnyBytes(t *testing.T) {
	l := append(sample.Rels(), sample.Rel(), sample.Wide(17, 0), sample.Broken(value.Text), sample.Rel(0), sample.Rel(7, value.Text))
	for seed := range uint32(1500) {
		b := sample.Mixed(int(seed%60), seed)
		r := l[int(seed)%len(l)]
		for _, version := range versions {
			taken(t, b, r, version)
			few := bytes.Clone(b)
			for k := range few {
				few[k] %= 4
			}
			taken(t, few, r, version)
		}
	}
}

func TestR1AnyRow(t *testing.T) {
	// Rows as long as can't be, and cells as they can't be.
	var w row.Row
	for kind := range uint8(9) {
		w = slices.Concat(w, sample.WrongCells(kind), sample.RightCells(kind))
	}
	for _, r := range append(sample.Rels(), rel.Rel{}, sample.Rel(), sample.Wide(17, 0), sample.Wide(200, 0), sample.Rel(7)) {
		for _, o := range []row.Row{nil, w, w[:1], w[:len(r.Columns)%len(w)]} {
			if e := o.Fits(r); e != fitsByWords(o, r) {
				t.Fatalf("error %d", e)
			}
			if b, e := o.Encode(r, 2); e != fitsByWords(o, r) || e != api.OK && b != nil {
				t.Fatalf("%v, error %d", b, e)
			}
		}
	}
	if len(w.Holes()) != len(w.Texts()) || !w.Alike(w) {
		t.Error("not itself")
	}
}

func TestR3NoneAndEmpty(t *testing.T) {
	none, empty := row.Row(nil), row.Row{}
	if !none.Alike(empty) || !empty.Alike(none) || none.Fits(sample.Rel(value.Int)) != empty.Fits(sample.Rel(value.Int)) {
		t.Error("none and empty are not one")
	}
	if o, e := empty.Fill([]row.Hole{}, nil); len(o) != 0 || e != api.OK {
		t.Errorf("%v, error %d", o, e)
	}
	if o, e := none.Fill(nil, []string{}); len(o) != 0 || e != api.OK {
		t.Errorf("%v, error %d", o, e)
	}
}

func TestR4HandedIn(t *testing.T) {
	long := strings.Repeat("a", 65)
	r := sample.Rel(value.Text, value.Bool, value.Bytes)
	w := row.Row{sample.Text(long), null, sample.Bytes("b")}
	kept, keptRel := slices.Clone(w), sample.Rel(value.Text, value.Bool, value.Bytes)
	b, _ := w.Encode(r, 2)
	holes, texts := w.Holes(), w.Texts()
	o, _ := w.Fill([]row.Hole{{Column: 0, Size: 2}, {Column: 2, Size: 1}}, []string{"cd", "e"})
	w.Fits(r)
	w.Alike(o)
	w.Fill(holes, nil)
	if !sample.EqualRow(w, kept) || !sample.EqualRel(r, keptRel) {
		t.Fatalf("%v of %v: what is handed in is changed", w, r)
	}
	in := prim.Read(b)
	got, gone := row.Take(in, r, 2)
	// What was handed in is changed afterwards.
	clear(b)
	clear(w)
	clear(r.Columns)
	filled, _ := got.Fill(gone, texts)
	clear(got)
	clear(texts)
	if !sample.EqualRow(o, row.Row{sample.Text("cd"), null, sample.Bytes("e")}) || !sample.EqualRow(filled, kept) || !slices.Equal(holes, []row.Hole{{Column: 0, Size: 65}}) {
		t.Errorf("%v, %v, %v", o, filled, holes)
	}
}

func TestR4FillKeepsNothing(t *testing.T) {
	room := row.Row{sample.Text("a"), sample.Text("b"), sample.Text("room")}
	w := room[:2]
	holes, texts := []row.Hole{{Column: 1, Size: 1}}, []string{"c"}
	one, _ := w.Fill(holes, texts)
	none, _ := w.Fill(nil, nil)
	two, _ := w.Fill(holes, texts)
	clear(one)
	none[0] = same
	_ = append(one, null)
	_ = append(none, null)
	if !sample.EqualRow(room, row.Row{sample.Text("a"), sample.Text("b"), sample.Text("room")}) || !sample.EqualRow(two, row.Row{sample.Text("a"), sample.Text("c")}) || holes[0] != (row.Hole{Column: 1, Size: 1}) || texts[0] != "c" {
		t.Errorf("%v, %v: an answer shares memory", room, two)
	}
}

func TestR4Answers(t *testing.T) {
	long := strings.Repeat("a", 65)
	r := sample.Rel(value.Text, value.Bool)
	w := row.Row{sample.Text(long), sample.Bool(1)}
	one, _ := w.Encode(r, 1)
	two, _ := w.Encode(r, 1)
	clear(one)
	_ = append(one, 9)
	if string(two) != "\x00\x02\x41\x01\x01" {
		t.Errorf("%v", two)
	}
	holes, texts := w.Holes(), w.Texts()
	holes[0], texts[0] = row.Hole{}, ""
	if w.Holes()[0] != (row.Hole{Column: 0, Size: 65}) || w.Texts()[0] != long || !sample.EqualRow(w, row.Row{sample.Text(long), sample.Bool(1)}) {
		t.Errorf("%v", w)
	}
	in := prim.Read(slices.Concat(two, two))
	a, ahead := row.Take(in, r, 1)
	b, behind := row.Take(in, r, 1)
	clear(a)
	clear(ahead)
	if !sample.EqualRow(b, row.Row{sample.Text(""), sample.Bool(1)}) || !slices.Equal(behind, []row.Hole{{Column: 0, Size: 65}}) {
		t.Errorf("%v, %v", b, behind)
	}
}

func TestR6Again(t *testing.T) {
	r := sample.Rel(value.Bool, value.Text)
	w := row.Row{null, sample.Text("ab")}
	for range 3 {
		row.Take(prim.Read([]byte{0}), r, 1)
		w[:1].Encode(r, 2)
		b, e := w.Encode(r, 2)
		if e != api.OK || !bytes.Equal(b, []byte{1, 4, 97, 98}) {
			t.Errorf("%v, error %d", b, e)
		}
		in := prim.Read(b)
		if o, holes := row.Take(in, r, 2); !sample.EqualRow(o, w) || holes != nil || in.End() != api.OK {
			t.Errorf("%v, %v, error %d", o, holes, in.End())
		}
	}
}

func TestExample(t *testing.T) {
	r := sample.Rel(value.Bool, value.Text)
	w := row.Row{null, sample.Text("ab")}
	if b, e := w.Encode(r, 2); e != api.OK || !bytes.Equal(b, []byte{1, 4, 97, 98}) {
		t.Errorf("%v, error %d", b, e)
	}
	in := prim.Read([]byte{1, 4, 97, 98})
	if o, holes := row.Take(in, r, 2); !sample.EqualRow(o, w) || holes != nil || in.End() != api.OK {
		t.Errorf("%v, %v, error %d", o, holes, in.End())
	}
}
