package cell_test

import (
	"bytes"
	"math"
	"slices"
	"strings"
	"testing"

	"lacuna/api"
	"lacuna/cell"
	"lacuna/prim"
	"lacuna/sample"
	"lacuna/value"
)

func text(n int) value.Value { return value.Value{Type: value.Text, Text: strings.Repeat("x", n)} }

func raw(n int) value.Value {
	return value.Value{Type: value.Bytes, Text: string(sample.Mixed(n, uint32(n)))}
}

var (
	negative = math.Copysign(0, -1)
	nan      = math.Float64frombits(0x7FF8000000000001)

	kinds    = []uint8{cell.Null, cell.Same, cell.Full, 3, 4, 128, 255}
	columns  = []uint8{0, value.Bool, value.Int, value.Float, value.Complex, value.Text, value.Bytes, 7, 8, 128, 255}
	versions = []uint8{0, 1, 2, 3, 255}
	lengths  = []int{0, 1, 2, 61, 62, 63, 64, 65, 66, 67, 125, 126, 127, 128, 300, 2046, 2047, 2048, 2049, 2050}
)

// values are ones of all types, right and wrong.
func values() []value.Value {
	l := []value.Value{
		{},
		{Type: 7},
		{Type: 255, Int: 1},
		{Int: 1},
		{Num: complex(negative, 0)},
		{Num: complex(0, negative)},
		{Text: "a"},
		{Type: value.Bool},
		{Type: value.Bool, Int: 1},
		{Type: value.Bool, Int: 2},
		{Type: value.Bool, Text: "a"},
		{Type: value.Int},
		{Type: value.Int, Int: -1},
		{Type: value.Int, Int: math.MaxInt64},
		{Type: value.Int, Int: math.MinInt64},
		{Type: value.Int, Num: 1},
		{Type: value.Int, Text: strings.Repeat("a", 65)},
		{Type: value.Float},
		{Type: value.Float, Num: 2},
		{Type: value.Float, Num: complex(negative, 0)},
		{Type: value.Float, Num: complex(nan, 0)},
		{Type: value.Float, Num: 1i},
		{Type: value.Complex},
		{Type: value.Complex, Num: 2i},
		{Type: value.Complex, Num: complex(nan, negative)},
		{Type: value.Complex, Int: 1},
		{Type: value.Text, Text: "a\x1f"},
		{Type: value.Text, Text: strings.Repeat("a", 64) + "\x7f"},
		{Type: value.Text, Text: "a", Int: 1},
		{Type: value.Text, Text: strings.Repeat("a", 65), Int: 1},
		{Type: value.Bytes, Text: "\x00\xff"},
		{Type: value.Bytes, Num: complex(0, negative)},
	}
	for _, n := range lengths {
		l = append(l, text(n), raw(n))
	}
	return l
}

// several are cells of all kinds with all values.
func several() []cell.Cell {
	var l []cell.Cell
	for _, v := range values() {
		for _, kind := range kinds {
			l = append(l, cell.Cell{Kind: kind, Value: v})
		}
	}
	return l
}

// zero: is all of a value 0, or empty?
func zero(v value.Value) bool {
	bits := math.Float64bits
	return v.Type == 0 && v.Int == 0 && bits(real(v.Num)) == 0 && bits(imag(v.Num)) == 0 && v.Text == ""
}

// wrong is what is wrong with a cell in a column, as P7.1 says it.
func wrong(c cell.Cell, kind uint8) api.Errno {
	switch {
	case kind < 1 || kind > 6:
		return api.ErrType
	case c.Kind > 2:
		return api.ErrKind
	case c.Kind != 2 && !zero(c.Value):
		return api.ErrForm
	case c.Kind == 1 && kind < 5:
		return api.ErrType
	case c.Kind == 2 && value.Right(c.Value) != api.OK:
		return value.Right(c.Value)
	case c.Kind == 2 && c.Value.Type != kind:
		return api.ErrType
	}
	return api.OK
}

func TestKinds(t *testing.T) {
	if l := []int{cell.Null, cell.Same, cell.Full}; !slices.Equal(l, []int{0, 1, 2}) {
		t.Error(l)
	}
}

func TestP71Of(t *testing.T) {
	for _, v := range values() {
		if c := cell.Of(v); !sample.EqualCell(c, cell.Cell{Kind: 2, Value: v}) {
			t.Errorf("%v: %v", v, c)
		}
	}
}

func TestP71Right(t *testing.T) {
	one := value.Value{Type: value.Int, Int: 1}
	for _, x := range []struct {
		name string
		c    cell.Cell
		kind uint8
		e    api.Errno
	}{
		{"null in an int", cell.Cell{}, value.Int, api.OK},
		{"null in a bool", cell.Cell{}, value.Bool, api.OK},
		{"null in a text", cell.Cell{}, value.Text, api.OK},
		{"null in bytes", cell.Cell{}, value.Bytes, api.OK},
		{"null in the type 0", cell.Cell{}, 0, api.ErrType},
		{"null in the type 7", cell.Cell{}, 7, api.ErrType},
		{"null in the type 255", cell.Cell{}, 255, api.ErrType},
		{"null with a value", cell.Cell{Value: one}, value.Int, api.ErrForm},
		{"null with a type", cell.Cell{Value: value.Value{Type: value.Int}}, value.Int, api.ErrForm},
		{"null with -0", cell.Cell{Value: value.Value{Num: complex(negative, 0)}}, value.Float, api.ErrForm},
		{"null with an imaginary -0", cell.Cell{Value: value.Value{Num: complex(0, negative)}}, value.Complex, api.ErrForm},
		{"null with a Text", cell.Cell{Value: value.Value{Text: "a"}}, value.Text, api.ErrForm},
		{"null with an Int", cell.Cell{Value: value.Value{Int: -1}}, value.Int, api.ErrForm},
		{"same in a bool", cell.Cell{Kind: cell.Same}, value.Bool, api.ErrType},
		{"same in an int", cell.Cell{Kind: cell.Same}, value.Int, api.ErrType},
		{"same in a float", cell.Cell{Kind: cell.Same}, value.Float, api.ErrType},
		{"same in a complex", cell.Cell{Kind: cell.Same}, value.Complex, api.ErrType},
		{"same in a text", cell.Cell{Kind: cell.Same}, value.Text, api.OK},
		{"same in bytes", cell.Cell{Kind: cell.Same}, value.Bytes, api.OK},
		{"same in the type 0", cell.Cell{Kind: cell.Same}, 0, api.ErrType},
		{"same in the type 7", cell.Cell{Kind: cell.Same}, 7, api.ErrType},
		{"same with a value", cell.Cell{Kind: cell.Same, Value: text(1)}, value.Text, api.ErrForm},
		{"same with -0", cell.Cell{Kind: cell.Same, Value: value.Value{Num: complex(negative, 0)}}, value.Bytes, api.ErrForm},
		{"full in its type", cell.Of(one), value.Int, api.OK},
		{"full of 0", cell.Of(value.Value{Type: value.Int}), value.Int, api.OK},
		{"full of a zero value", cell.Cell{Kind: cell.Full}, value.Int, api.ErrType},
		{"full in another type", cell.Of(one), value.Bool, api.ErrType},
		{"a text in bytes", cell.Of(text(1)), value.Bytes, api.ErrType},
		{"bytes in a text", cell.Of(value.Value{Type: value.Bytes, Text: "a"}), value.Text, api.ErrType},
		{"full of no type", cell.Of(value.Value{Type: 7}), value.Int, api.ErrType},
		{"2048 bytes", cell.Of(text(2048)), value.Text, api.OK},
		{"2049 bytes", cell.Of(text(2049)), value.Text, api.ErrLong},
		{"a bool of 2", cell.Of(value.Value{Type: value.Bool, Int: 2}), value.Bool, api.ErrRange},
		{"a text of other bytes", cell.Of(value.Value{Type: value.Text, Text: "\n"}), value.Text, api.ErrForm},
		{"the kind 3", cell.Cell{Kind: 3}, value.Int, api.ErrKind},
		{"the kind 255", cell.Cell{Kind: 255}, value.Text, api.ErrKind},

		{"type of the column ahead of the kind", cell.Cell{Kind: 3}, 7, api.ErrType},
		{"type of the column ahead of the form", cell.Cell{Value: one}, 0, api.ErrType},
		{"type of the column ahead of the value", cell.Of(text(2049)), 7, api.ErrType},
		{"kind ahead of the form", cell.Cell{Kind: 3, Value: one}, value.Int, api.ErrKind},
		{"kind ahead of the value", cell.Cell{Kind: 3, Value: text(2049)}, value.Text, api.ErrKind},
		{"form ahead of same in an int", cell.Cell{Kind: cell.Same, Value: one}, value.Int, api.ErrForm},
		{"form ahead of the value", cell.Cell{Value: text(2049)}, value.Text, api.ErrForm},
		{"the value ahead of its type: range", cell.Of(value.Value{Type: value.Bool, Int: 2}), value.Int, api.ErrRange},
		{"the value ahead of its type: length", cell.Of(text(2049)), value.Bytes, api.ErrLong},
		{"the value ahead of its type: form", cell.Of(value.Value{Type: value.Int, Text: "a"}), value.Text, api.ErrForm},
	} {
		if e := cell.Right(x.c, x.kind); e != x.e {
			t.Errorf("%s: %d, not %d", x.name, e, x.e)
		}
	}
	for _, c := range several() {
		for _, kind := range columns {
			if e := cell.Right(c, kind); e != wrong(c, kind) {
				t.Errorf("%v in %d: %d, not %d", c, kind, e, wrong(c, kind))
			}
		}
	}
}

func TestP71Alike(t *testing.T) {
	for _, x := range []struct {
		name  string
		a, b  cell.Cell
		alike bool
	}{
		{"nulls", cell.Cell{}, cell.Cell{}, true},
		{"null and same", cell.Cell{}, cell.Cell{Kind: cell.Same}, false},
		{"same and full of a zero value", cell.Cell{Kind: cell.Same}, cell.Cell{Kind: cell.Full}, false},
		{"kinds there are not", cell.Cell{Kind: 9}, cell.Cell{Kind: 9}, true},
		{"other kinds there are not", cell.Cell{Kind: 9}, cell.Cell{Kind: 8}, false},
		{"nulls, one with a value", cell.Cell{}, cell.Cell{Value: text(1)}, false},
		{"NaNs of the same bits", cell.Of(value.Value{Type: value.Float, Num: complex(nan, 0)}), cell.Of(value.Value{Type: value.Float, Num: complex(nan, 0)}), true},
		{"0 and -0", cell.Of(value.Value{Type: value.Float}), cell.Of(value.Value{Type: value.Float, Num: complex(negative, 0)}), false},
		{"a text and bytes", cell.Of(text(0)), cell.Of(raw(0)), false},
		{"texts", cell.Of(text(300)), cell.Of(text(300)), true},
		{"other texts", cell.Of(text(300)), cell.Of(text(301)), false},
	} {
		if a := cell.Alike(x.a, x.b); a != x.alike {
			t.Errorf("%s: %v", x.name, a)
		}
	}
	l := several()
	for _, a := range l {
		for _, b := range l {
			if alike := cell.Alike(a, b); alike != sample.EqualCell(a, b) {
				t.Fatalf("%v and %v: %v", a, b, alike)
			}
		}
	}
}

func TestP71Large(t *testing.T) {
	for _, c := range several() {
		large := c.Kind == 2 && (c.Value.Type == 5 || c.Value.Type == 6) && len(c.Value.Text) > 64
		if cell.Large(c) != large {
			t.Errorf("kind %d, type %d, %d bytes: %v", c.Kind, c.Value.Type, len(c.Value.Text), !large)
		}
	}
	for n, large := range map[int]bool{0: false, 1: false, 63: false, 64: false, 65: true, 300: true, 2048: true} {
		if cell.Large(cell.Of(text(n))) != large || cell.Large(cell.Of(raw(n))) != large {
			t.Errorf("%d bytes: not %v", n, large)
		}
	}
}

func TestP72Put(t *testing.T) {
	same := cell.Cell{Kind: cell.Same}
	for _, x := range []struct {
		name     string
		c        cell.Cell
		kind     uint8
		one, two []byte
	}{
		{"no", cell.Of(value.Value{Type: value.Bool}), value.Bool, []byte{1, 0}, []byte{0}},
		{"yes", cell.Of(value.Value{Type: value.Bool, Int: 1}), value.Bool, []byte{1, 1}, []byte{1}},
		{"-1", cell.Of(value.Value{Type: value.Int, Int: -1}), value.Int, []byte{1, 255, 255, 255, 255, 255, 255, 255, 255}, []byte{1}},
		{"2.0", cell.Of(value.Value{Type: value.Float, Num: 2}), value.Float, []byte{1, 0, 0, 0, 0, 0, 0, 0, 64}, []byte{64}},
		{"2i", cell.Of(value.Value{Type: value.Complex, Num: 2i}), value.Complex, []byte{1, 0, 0, 0, 0, 0, 0, 0, 0, 0, 0, 0, 0, 0, 0, 0, 64}, []byte{2, 64}},
		{"same in a text", same, value.Text, []byte{0}, []byte{0}},
		{"same in bytes", same, value.Bytes, []byte{0}, []byte{0}},
		{"no byte of a text", cell.Of(text(0)), value.Text, []byte{1, 0}, []byte{2}},
		{"no byte", cell.Of(raw(0)), value.Bytes, []byte{1, 0}, []byte{2}},
		{"one byte", cell.Of(text(1)), value.Text, []byte{1, 1, 'x'}, []byte{3, 'x'}},
		{"the byte 0", cell.Of(value.Value{Type: value.Bytes, Text: "\x00"}), value.Bytes, []byte{1, 1, 0}, []byte{3, 0}},
		{"63 bytes", cell.Of(text(63)), value.Text, sample.Join([]byte{1, 63}, bytes.Repeat([]byte("x"), 63)), sample.Join([]byte{65}, bytes.Repeat([]byte("x"), 63))},
		{"64 bytes", cell.Of(text(64)), value.Text, sample.Join([]byte{1, 64}, bytes.Repeat([]byte("x"), 64)), sample.Join([]byte{66}, bytes.Repeat([]byte("x"), 64))},
		{"any 64 bytes", cell.Of(raw(64)), value.Bytes, sample.Join([]byte{1, 64}, sample.Mixed(64, 64)), sample.Join([]byte{66}, sample.Mixed(64, 64))},
		{"65 bytes", cell.Of(text(65)), value.Text, []byte{2, 65}, []byte{1, 65}},
		{"any 65 bytes", cell.Of(raw(65)), value.Bytes, []byte{2, 65}, []byte{1, 65}},
		{"127 bytes", cell.Of(text(127)), value.Text, []byte{2, 127}, []byte{1, 127}},
		{"128 bytes", cell.Of(text(128)), value.Text, []byte{2, 128, 1}, []byte{1, 128, 1}},
		{"300 bytes", cell.Of(text(300)), value.Text, []byte{2, 172, 2}, []byte{1, 172, 2}},
		{"2048 bytes", cell.Of(raw(2048)), value.Bytes, []byte{2, 128, 16}, []byte{1, 128, 16}},
	} {
		for version, want := range map[uint8][]byte{1: x.one, 2: x.two} {
			for _, ahead := range [][]byte{nil, {}, {7}, sample.Mixed(100, 1)} {
				if b, e := cell.Put(ahead, x.c, x.kind, version); e != api.OK || !bytes.Equal(b, sample.Join(ahead, want)) {
					t.Errorf("%s in version %d behind %d bytes: %v, error %d", x.name, version, len(ahead), b, e)
				}
			}
		}
	}
}

// putByWords is what P7.2 says that Put answers.
func putByWords(b []byte, c cell.Cell, kind, version uint8) ([]byte, api.Errno) {
	switch {
	case version != 1 && version != 2:
		return nil, api.ErrVersion
	case wrong(c, kind) != api.OK:
		return nil, wrong(c, kind)
	case c.Kind == 0:
		return nil, api.ErrNull
	}
	v := c.Value
	n := len(v.Text)
	large := c.Kind == 2 && (kind == 5 || kind == 6) && n > 64
	own, _ := value.Put(nil, v, version)
	number := func(n int) []byte {
		if n < 128 {
			return []byte{byte(n)}
		}
		return []byte{byte(n%128 + 128), byte(n / 128)}
	}
	switch {
	case c.Kind == 1:
		return sample.Join(b, []byte{0}), api.OK
	case version == 1 && large:
		return sample.Join(b, []byte{2}, number(n)), api.OK
	case version == 1:
		return sample.Join(b, []byte{1}, own), api.OK
	case large:
		return sample.Join(b, []byte{1}, number(n)), api.OK
	case kind == 5 || kind == 6:
		return sample.Join(b, number(n+2), []byte(v.Text)), api.OK
	}
	return sample.Join(b, own), api.OK
}

func TestP72PutByItsWords(t *testing.T) {
	for _, c := range several() {
		for _, kind := range columns {
			for _, version := range versions {
				b, e := cell.Put([]byte{5, 6}, c, kind, version)
				want, err := putByWords([]byte{5, 6}, c, kind, version)
				if e != err || !bytes.Equal(b, want) || e != api.OK && b != nil {
					t.Fatalf("%v in %d, version %d: %v, error %d, not %v, %d", c, kind, version, b, e, want, err)
				}
			}
		}
	}
}

func TestP72PutWrong(t *testing.T) {
	one := value.Value{Type: value.Int, Int: 1}
	for _, x := range []struct {
		name          string
		c             cell.Cell
		kind, version uint8
		e             api.Errno
	}{
		{"the version 0", cell.Of(one), value.Int, 0, api.ErrVersion},
		{"the version 3", cell.Of(one), value.Int, 3, api.ErrVersion},
		{"the version 255", cell.Of(one), value.Int, 255, api.ErrVersion},
		{"null in version 1", cell.Cell{}, value.Int, 1, api.ErrNull},
		{"null in version 2", cell.Cell{}, value.Int, 2, api.ErrNull},
		{"null in a text", cell.Cell{}, value.Text, 2, api.ErrNull},
		{"the type 0", cell.Of(one), 0, 1, api.ErrType},
		{"the type 7", cell.Of(one), 7, 2, api.ErrType},
		{"the kind 3", cell.Cell{Kind: 3}, value.Text, 1, api.ErrKind},
		{"same in an int", cell.Cell{Kind: cell.Same}, value.Int, 2, api.ErrType},
		{"same with a value", cell.Cell{Kind: cell.Same, Value: text(1)}, value.Text, 2, api.ErrForm},
		{"another type", cell.Of(one), value.Float, 1, api.ErrType},
		{"2049 bytes", cell.Of(text(2049)), value.Text, 1, api.ErrLong},
		{"version ahead of the type", cell.Of(one), 7, 3, api.ErrVersion},
		{"version ahead of the kind", cell.Cell{Kind: 3}, value.Int, 0, api.ErrVersion},
		{"version ahead of null", cell.Cell{}, value.Int, 3, api.ErrVersion},
		{"type ahead of null", cell.Cell{}, 7, 1, api.ErrType},
		{"form ahead of null", cell.Cell{Value: one}, value.Int, 1, api.ErrForm},
	} {
		if b, e := cell.Put([]byte{1, 2}, x.c, x.kind, x.version); e != x.e || b != nil {
			t.Errorf("%s: %v, error %d, not %d", x.name, b, e, x.e)
		}
	}
}

func TestP72Take(t *testing.T) {
	same := cell.Cell{Kind: cell.Same}
	for _, x := range []struct {
		name          string
		b             []byte
		kind, version uint8
		c             cell.Cell
		n             int
	}{
		{"yes", []byte{1, 1}, value.Bool, 1, cell.Of(value.Value{Type: value.Bool, Int: 1}), 0},
		{"yes in version 2", []byte{1}, value.Bool, 2, cell.Of(value.Value{Type: value.Bool, Int: 1}), 0},
		{"-1", []byte{1, 255, 255, 255, 255, 255, 255, 255, 255}, value.Int, 1, cell.Of(value.Value{Type: value.Int, Int: -1}), 0},
		{"-1 in version 2", []byte{1}, value.Int, 2, cell.Of(value.Value{Type: value.Int, Int: -1}), 0},
		{"2i in version 2", []byte{2, 64}, value.Complex, 2, cell.Of(value.Value{Type: value.Complex, Num: 2i}), 0},
		{"same in a text", []byte{0}, value.Text, 1, same, 0},
		{"same in bytes", []byte{0}, value.Bytes, 1, same, 0},
		{"same in a text in version 2", []byte{0}, value.Text, 2, same, 0},
		{"same in bytes in version 2", []byte{0}, value.Bytes, 2, same, 0},
		{"no byte", []byte{1, 0}, value.Text, 1, cell.Of(text(0)), 0},
		{"no byte in version 2", []byte{2}, value.Bytes, 2, cell.Of(raw(0)), 0},
		{"ab", []byte{1, 2, 97, 98}, value.Text, 1, cell.Of(value.Value{Type: value.Text, Text: "ab"}), 0},
		{"ab in version 2", []byte{4, 97, 98}, value.Text, 2, cell.Of(value.Value{Type: value.Text, Text: "ab"}), 0},
		{"any bytes", []byte{1, 2, 0, 255}, value.Bytes, 1, cell.Of(value.Value{Type: value.Bytes, Text: "\x00\xff"}), 0},
		{"any bytes in version 2", []byte{4, 0, 255}, value.Bytes, 2, cell.Of(value.Value{Type: value.Bytes, Text: "\x00\xff"}), 0},
		{"64 bytes", sample.Join([]byte{1, 64}, sample.Mixed(64, 64)), value.Bytes, 1, cell.Of(raw(64)), 0},
		{"64 bytes in version 2", sample.Join([]byte{66}, sample.Mixed(64, 64)), value.Bytes, 2, cell.Of(raw(64)), 0},
		{"65 bytes", []byte{2, 65}, value.Text, 1, cell.Of(text(0)), 65},
		{"65 bytes in version 2", []byte{1, 65}, value.Bytes, 2, cell.Of(raw(0)), 65},
		{"300 bytes", []byte{2, 172, 2}, value.Bytes, 1, cell.Of(raw(0)), 300},
		{"2048 bytes", []byte{2, 128, 16}, value.Text, 1, cell.Of(text(0)), 2048},
		{"2048 bytes in version 2", []byte{1, 128, 16}, value.Text, 2, cell.Of(text(0)), 2048},
	} {
		r := prim.Read(sample.Join(x.b, []byte{9, 9}))
		if c, n := cell.Take(r, x.kind, x.version); !sample.EqualCell(c, x.c) || n != x.n || r.Err() != api.OK || r.Left() != 2 {
			t.Errorf("%s: %v, %d, error %d, %d bytes left", x.name, c, n, r.Err(), r.Left())
		}
	}
}

func TestP72TakeWrong(t *testing.T) {
	x64 := strings.Repeat("x", 64)
	for _, x := range []struct {
		name          string
		b             string
		kind, version uint8
		e             api.Errno
	}{
		{"the version 0", "\x01\x01", value.Bool, 0, api.ErrVersion},
		{"the version 3", "\x01\x01", value.Bool, 3, api.ErrVersion},
		{"the type 0", "\x01\x01", 0, 1, api.ErrType},
		{"the type 7", "\x01\x01", 7, 1, api.ErrType},
		{"the type 0 in version 2", "\x01", 0, 2, api.ErrType},
		{"the type 7 in version 2", "\x01", 7, 2, api.ErrType},
		{"version ahead of type", "\x01", 7, 3, api.ErrVersion},
		{"version ahead of no byte", "", value.Bool, 3, api.ErrVersion},
		{"type ahead of no byte", "", 7, 1, api.ErrType},
		{"type ahead of no byte in version 2", "", 0, 2, api.ErrType},
		{"type ahead of the kind", "\x03", 7, 1, api.ErrType},

		{"no byte", "", value.Bool, 1, api.ErrShort},
		{"no byte of a text", "", value.Text, 1, api.ErrShort},
		{"no byte in version 2", "", value.Bool, 2, api.ErrShort},
		{"no byte of bytes in version 2", "", value.Bytes, 2, api.ErrShort},
		{"a first byte of 3", "\x03\x00", value.Text, 1, api.ErrKind},
		{"a first byte of 255", "\xff\x00", value.Bytes, 1, api.ErrKind},
		{"a first byte of 3, and nothing", "\x03", value.Text, 1, api.ErrKind},
		{"a first byte of 3 of an int", "\x03\x00\x00\x00\x00\x00\x00\x00\x00", value.Int, 1, api.ErrKind},
		{"same of a bool", "\x00\x00", value.Bool, 1, api.ErrKind},
		{"same of an int", "\x00\x00\x00\x00\x00\x00\x00\x00\x00", value.Int, 1, api.ErrKind},
		{"same of a float", "\x00", value.Float, 1, api.ErrKind},
		{"same of a complex", "\x00", value.Complex, 1, api.ErrKind},
		{"away of a bool", "\x02\x41", value.Bool, 1, api.ErrKind},
		{"away of an int", "\x02\x41", value.Int, 1, api.ErrKind},
		{"away of a float", "\x02\x41", value.Float, 1, api.ErrKind},
		{"away of a complex", "\x02\x41", value.Complex, 1, api.ErrKind},
		{"nothing behind the first byte of a bool", "\x01", value.Bool, 1, api.ErrShort},
		{"a bool of 2", "\x01\x02", value.Bool, 1, api.ErrRange},
		{"a bool of 2 in version 2", "\x02", value.Bool, 2, api.ErrRange},
		{"7 bytes of an int", "\x01\x00\x00\x00\x00\x00\x00\x00", value.Int, 1, api.ErrShort},
		{"a complex of 4 in version 2", "\x04", value.Complex, 2, api.ErrRange},
		{"a part of 0 in version 2", "\x01\x00", value.Complex, 2, api.ErrForm},
		{"an int longer than it is", "\x80\x00", value.Int, 2, api.ErrOver},

		{"no length", "\x01", value.Text, 1, api.ErrShort},
		{"half a length", "\x01\x80", value.Text, 1, api.ErrShort},
		{"a length longer than it is", "\x01\x81\x00", value.Text, 1, api.ErrOver},
		{"a length of 11 bytes", "\x01\x80\x80\x80\x80\x80\x80\x80\x80\x80\x80\x01", value.Bytes, 1, api.ErrOver},
		{"a length of 65", "\x01\x41" + x64 + "x", value.Text, 1, api.ErrRange},
		{"a length of 65 of bytes", "\x01\x41" + x64 + "x", value.Bytes, 1, api.ErrRange},
		{"a length of 65, and nothing", "\x01\x41", value.Text, 1, api.ErrRange},
		{"a length of 2^64 - 1", "\x01\xff\xff\xff\xff\xff\xff\xff\xff\xff\x01", value.Text, 1, api.ErrRange},
		{"too few bytes", "\x01\x02a", value.Text, 1, api.ErrShort},
		{"63 of 64 bytes", "\x01\x40" + x64[1:], value.Bytes, 1, api.ErrShort},
		{"other bytes", "\x01\x02a\n", value.Text, 1, api.ErrForm},
		{"the byte 127", "\x01\x01\x7f", value.Text, 1, api.ErrForm},
		{"too few bytes ahead of other bytes", "\x01\x03\n\n", value.Text, 1, api.ErrShort},
		{"range ahead of other bytes", "\x01\x41\n", value.Text, 1, api.ErrRange},

		{"half a number in version 2", "\x80", value.Text, 2, api.ErrShort},
		{"a number longer than it is", "\x82\x00", value.Text, 2, api.ErrOver},
		{"a number of 10 bytes, too great", "\x80\x80\x80\x80\x80\x80\x80\x80\x80\x02", value.Text, 2, api.ErrOver},
		{"a length of 65 in version 2", "\x43" + x64 + "x", value.Text, 2, api.ErrRange},
		{"a length of 65 of bytes in version 2", "\x43" + x64 + "x", value.Bytes, 2, api.ErrRange},
		{"a length of 65 in version 2, and nothing", "\x43", value.Bytes, 2, api.ErrRange},
		{"a length of 66 in version 2", "\x44" + x64 + "xx", value.Bytes, 2, api.ErrRange},
		{"a length of 2^64 - 1 in version 2", "\xff\xff\xff\xff\xff\xff\xff\xff\xff\x01", value.Text, 2, api.ErrRange},
		{"too few bytes in version 2", "\x04a", value.Text, 2, api.ErrShort},
		{"none of one byte in version 2", "\x03", value.Bytes, 2, api.ErrShort},
		{"other bytes in version 2", "\x04a\n", value.Text, 2, api.ErrForm},
		{"too few bytes ahead of other bytes in version 2", "\x05\n\n", value.Text, 2, api.ErrShort},

		{"no length of one that is away", "\x02", value.Text, 1, api.ErrShort},
		{"half a length of one that is away", "\x02\x80", value.Bytes, 1, api.ErrShort},
		{"a length of one that is away, longer than it is", "\x02\xc1\x00", value.Text, 1, api.ErrOver},
		{"a length of 0 of one that is away", "\x02\x00", value.Text, 1, api.ErrRange},
		{"a length of 64 of one that is away", "\x02\x40" + x64, value.Text, 1, api.ErrRange},
		{"a length of 2049 of one that is away", "\x02\x81\x10", value.Text, 1, api.ErrRange},
		{"a length of 2^63 of one that is away", "\x02\x80\x80\x80\x80\x80\x80\x80\x80\x80\x01", value.Bytes, 1, api.ErrRange},
		{"no length of one that is away in version 2", "\x01", value.Bytes, 2, api.ErrShort},
		{"half a length of one that is away in version 2", "\x01\xff", value.Bytes, 2, api.ErrShort},
		{"a length of 64 of one that is away in version 2", "\x01\x40", value.Bytes, 2, api.ErrRange},
		{"a length of 2049 of one that is away in version 2", "\x01\x81\x10", value.Bytes, 2, api.ErrRange},
	} {
		r := prim.Read([]byte(x.b))
		c, n := cell.Take(r, x.kind, x.version)
		if !sample.EqualCell(c, cell.Cell{}) || n != 0 || r.Err() != x.e || r.Left() != 0 {
			t.Errorf("%s: %v, %d, error %d, not %d", x.name, c, n, r.Err(), x.e)
		}
	}
}

func TestP72GivenUp(t *testing.T) {
	for _, kind := range columns {
		for _, version := range versions {
			for _, b := range [][]byte{nil, {0}, {1, 1}, {2, 65}, {4, 97, 98}} {
				r := prim.Read(b)
				r.Fail(api.ErrSum)
				if c, n := cell.Take(r, kind, version); !sample.EqualCell(c, cell.Cell{}) || n != 0 || r.Err() != api.ErrSum {
					t.Errorf("type %d, version %d: %v, %d, error %d", kind, version, c, n, r.Err())
				}
			}
		}
	}
}

// takeByWords is what P7.2 says that Take answers, how many bytes are taken then, and with what it gives up.
func takeByWords(b []byte, kind, version uint8) (cell.Cell, int, int, api.Errno) {
	bad := func(e api.Errno) (cell.Cell, int, int, api.Errno) { return cell.Cell{}, 0, 0, e }
	switch {
	case version != 1 && version != 2:
		return bad(api.ErrVersion)
	case kind < 1 || kind > 6:
		return bad(api.ErrType)
	}
	textual := kind == 5 || kind == 6
	at := 0
	number := func() (uint64, api.Errno) {
		r := prim.Read(b[at:])
		n := r.Uint(math.MaxUint64)
		at = len(b) - r.Left()
		return n, r.Err()
	}
	full := func() (cell.Cell, int, int, api.Errno) {
		r := prim.Read(b[at:])
		v := value.Take(r, kind, version)
		if r.Err() != api.OK {
			return bad(r.Err())
		}
		return cell.Cell{Kind: 2, Value: v}, 0, len(b) - r.Left(), api.OK
	}
	stands := func(n uint64) (cell.Cell, int, int, api.Errno) {
		if n > 64 {
			return bad(api.ErrRange)
		}
		if uint64(len(b)-at) < n {
			return bad(api.ErrShort)
		}
		s := string(b[at : at+int(n)])
		if kind == 5 && strings.ContainsFunc(s, func(r rune) bool { return r < 32 || r > 126 }) {
			return bad(api.ErrForm)
		}
		return cell.Cell{Kind: 2, Value: value.Value{Type: kind, Text: s}}, 0, at + int(n), api.OK
	}
	away := func() (cell.Cell, int, int, api.Errno) {
		n, e := number()
		switch {
		case e != api.OK:
			return bad(e)
		case n <= 64 || n > 2048:
			return bad(api.ErrRange)
		}
		return cell.Cell{Kind: 2, Value: value.Value{Type: kind}}, int(n), at, api.OK
	}
	if version == 2 && !textual {
		return full()
	}
	if version == 2 {
		n, e := number()
		switch {
		case e != api.OK:
			return bad(e)
		case n == 0:
			return cell.Cell{Kind: 1}, 0, at, api.OK
		case n == 1:
			return away()
		}
		return stands(n - 2)
	}
	if len(b) == 0 {
		return bad(api.ErrShort)
	}
	at = 1
	switch {
	case b[0] > 2 || b[0] != 1 && !textual:
		return bad(api.ErrKind)
	case b[0] == 0:
		return cell.Cell{Kind: 1}, 0, at, api.OK
	case b[0] == 2:
		return away()
	case !textual:
		return full()
	}
	n, e := number()
	if e != api.OK {
		return bad(e)
	}
	return stands(n)
}

// taken holds Take against the words, and what it takes against Put.
func taken(t *testing.T, b []byte, kind, version uint8) {
	t.Helper()
	r := prim.Read(b)
	c, n := cell.Take(r, kind, version)
	want, length, size, e := takeByWords(b, kind, version)
	if !sample.EqualCell(c, want) || n != length || r.Err() != e {
		t.Fatalf("%v of type %d, version %d: %v, %d, error %d, not %v, %d, %d", b, kind, version, c, n, r.Err(), want, length, e)
	}
	if e != api.OK {
		return
	}
	if len(b)-r.Left() != size {
		t.Fatalf("%v of type %d, version %d: %d bytes left", b, kind, version, r.Left())
	}
	if n > 0 {
		c.Value.Text = strings.Repeat("x", n)
	}
	if back, e := cell.Put(nil, c, kind, version); e != api.OK || !bytes.Equal(back, b[:size]) {
		t.Fatalf("%v of type %d, version %d: put as %v, error %d", b, kind, version, back, e)
	}
}

func TestP73FromNoOtherBytes(t *testing.T) {
	for _, kind := range columns {
		for _, version := range versions {
			taken(t, nil, kind, version)
			for x := range 256 {
				taken(t, []byte{byte(x)}, kind, version)
				for y := range 256 {
					taken(t, []byte{byte(x), byte(y)}, kind, version)
				}
			}
			for seed := range uint32(300) {
				b := sample.Mixed(1+int(seed)%90, seed)
				taken(t, b, kind, version)
				b[0] %= 4
				taken(t, b, kind, version)
				if len(b) > 2 {
					b[1] %= 68
					taken(t, b, kind, version)
				}
			}
		}
	}
}

func TestP73Turned(t *testing.T) {
	for _, c := range several() {
		for version := uint8(1); version <= 2; version++ {
			b, e := cell.Put(nil, c, c.Value.Type, version)
			if e != api.OK {
				continue
			}
			for k := range b {
				taken(t, b[:k], c.Value.Type, version)
				for _, turn := range []byte{1, 2, 3, 64, 127, 128, 255} {
					b[k] ^= turn
					taken(t, b, c.Value.Type, version)
					b[k] ^= turn
				}
			}
			taken(t, append(b, 0), c.Value.Type, version)
		}
	}
}

func TestP73PutAndTaken(t *testing.T) {
	type put struct {
		c    cell.Cell
		kind uint8
	}
	for version := uint8(1); version <= 2; version++ {
		var all []put
		var b []byte
		for _, c := range several() {
			for _, kind := range columns {
				more, e := cell.Put(b, c, kind, version)
				if e != api.OK {
					continue
				}
				// Each alone ends just there.
				one, _ := cell.Put(nil, c, kind, version)
				r := prim.Read(one)
				if cell.Take(r, kind, version); r.End() != api.OK {
					t.Fatalf("%v of type %d in version %d: error %d", c, kind, version, r.End())
				}
				b, all = more, append(all, put{c, kind})
			}
		}
		r := prim.Read(b)
		for _, x := range all {
			want, length := x.c, 0
			if cell.Large(x.c) {
				want.Value.Text, length = "", len(x.c.Value.Text)
			}
			if c, n := cell.Take(r, x.kind, version); !sample.EqualCell(c, want) || n != length {
				t.Fatalf("%v of type %d in version %d: %v, %d", x.c, x.kind, version, c, n)
			}
		}
		if e := r.End(); e != api.OK || len(all) < 40 {
			t.Errorf("%d cells in version %d: error %d", len(all), version, e)
		}
	}
}

func TestR4Put(t *testing.T) {
	for _, c := range []cell.Cell{
		{Kind: cell.Same}, cell.Of(text(0)), cell.Of(text(3)), cell.Of(text(65)), cell.Of(text(300)),
	} {
		for version := uint8(1); version <= 2; version++ {
			room := bytes.Repeat([]byte{9}, 60)
			kept := bytes.Clone(room)
			one, _ := cell.Put(room[:3], c, value.Text, version)
			two, _ := cell.Put(room[:3], c, value.Text, version)
			want := bytes.Clone(two)
			if !bytes.Equal(room, kept) {
				t.Errorf("%v in version %d: what is handed in is changed, or what is behind it", c, version)
			}
			for k := range one {
				one[k] = 77
			}
			_ = append(one, 88, 88)
			if !bytes.Equal(room, kept) || !bytes.Equal(two, want) {
				t.Errorf("%v in version %d: an answer shares memory", c, version)
			}
		}
	}
}

func TestR6TakeAgain(t *testing.T) {
	for range 3 {
		r := prim.Read([]byte{4, 97, 98})
		other := prim.Read([]byte{3})
		cell.Take(other, value.Int, 1)
		c, n := cell.Take(r, value.Text, 2)
		if !sample.EqualCell(c, cell.Of(value.Value{Type: value.Text, Text: "ab"})) || n != 0 || r.End() != api.OK {
			t.Errorf("%v, %d, error %d", c, n, r.End())
		}
	}
}

func TestExamples(t *testing.T) {
	ab := cell.Of(value.Value{Type: value.Text, Text: "ab"})
	if b, e := cell.Put(nil, ab, value.Text, 1); e != api.OK || !bytes.Equal(b, []byte{1, 2, 97, 98}) {
		t.Errorf("ab in version 1: %v, error %d", b, e)
	}
	if b, e := cell.Put(nil, ab, value.Text, 2); e != api.OK || !bytes.Equal(b, []byte{4, 97, 98}) {
		t.Errorf("ab in version 2: %v, error %d", b, e)
	}
	if b, e := cell.Put(nil, cell.Of(text(300)), value.Text, 2); e != api.OK || !bytes.Equal(b, []byte{1, 172, 2}) {
		t.Errorf("300 bytes in version 2: %v, error %d", b, e)
	}
}
