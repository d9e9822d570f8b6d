package value_test

import (
	"bytes"
	"math"
	"slices"
	"strings"
	"testing"

	"lacuna/api"
	"lacuna/prim"
	"lacuna/sample"
	"lacuna/value"
)

// number is the complex of those bits.
func number(re, im uint64) complex128 {
	return complex(math.Float64frombits(re), math.Float64frombits(im))
}

// Bits of floats: 0 and -0, the least ones, ordinary ones, infinities, NaNs of unlike bits, quiet and not.
var patterns = []uint64{
	0, 1 << 63, 1, 1<<63 | 1, 1<<52 - 1, 1 << 52, 0x3FF0000000000000, 0xBFF0000000000000, 0x4000000000000000,
	0x400921FB54442D18, 0x0123456789ABCDEF, 0x7FEFFFFFFFFFFFFF, 0x7FF0000000000000, 0xFFF0000000000000,
	0x7FF8000000000000, 0x7FF8000000000001, 0x7FF0000000000001, 0xFFF8000000000000, 0xFFF0000000000001, math.MaxUint64,
}

var ints = []int64{
	0, 1, 2, -1, -2, 3, 63, 64, -64, -65, 127, 128, 255, 256, 8191, 8192, 1 << 31, -1 << 31, 1<<53 + 1,
	math.MaxInt64 - 1, math.MaxInt64, math.MinInt64 + 1, math.MinInt64,
}

var texts = []string{
	"", "a", " ", "~", "\x1f", "\x7f", "\x00", "\x80", "\xff", "a\x1f", "\x7fa", "a\nb", "é", "a b~", strings.Repeat("x", 127), strings.Repeat("x", 128),
	strings.Repeat("x", 2047), strings.Repeat("~", 2048), strings.Repeat(" ", 2049), strings.Repeat("x", 2047) + "\x1f",
	strings.Repeat("x", 2048) + "\x7f", string(sample.Mixed(2048, 5)), string(sample.Mixed(2049, 5)),
}

var types = []uint8{0, value.Bool, value.Int, value.Float, value.Complex, value.Text, value.Bytes, 7, 8, 128, 255}

// several are values of all types, right and wrong, alone and with something beside what is their own.
func several() []value.Value {
	var l []value.Value
	for _, kind := range types {
		l = append(l, value.Value{Type: kind})
		for _, n := range ints {
			l = append(l, value.Value{Type: kind, Int: n})
		}
		for _, re := range patterns {
			for _, im := range patterns {
				l = append(l, value.Value{Type: kind, Num: number(re, im)})
			}
		}
		for _, s := range texts {
			l = append(l, value.Value{Type: kind, Text: s})
		}
		for _, n := range []int64{0, 1, 2} {
			for _, c := range []complex128{0, 1, 1i, number(1<<63, 0), number(0, 1<<63)} {
				for _, s := range []string{"", "a", "\x1f", strings.Repeat("a", 2049)} {
					l = append(l, value.Value{Type: kind, Int: n, Num: c, Text: s})
				}
			}
		}
	}
	return l
}

// rights are those of several that are right.
func rights() []value.Value {
	return slices.DeleteFunc(several(), func(v value.Value) bool { return wrong(v) != api.OK })
}

// wrong is what is wrong with a value, as P6.1 says it.
func wrong(v value.Value) api.Errno {
	noInt, noText := v.Int == 0, v.Text == ""
	noRe, noIm := math.Float64bits(real(v.Num)) == 0, math.Float64bits(imag(v.Num)) == 0
	alone := map[uint8]bool{
		1: noRe && noIm && noText,
		2: noRe && noIm && noText,
		3: noInt && noIm && noText,
		4: noInt && noText,
		5: noInt && noRe && noIm,
		6: noInt && noRe && noIm,
	}
	ok, there := alone[v.Type]
	switch {
	case !there:
		return api.ErrType
	case !ok:
		return api.ErrForm
	case v.Type == 1 && (v.Int < 0 || v.Int > 1):
		return api.ErrRange
	case len(v.Text) > 2048:
		return api.ErrLong
	case v.Type == 5 && strings.ContainsFunc(v.Text, func(r rune) bool { return r < 32 || r > 126 }):
		return api.ErrForm
	}
	return api.OK
}

func TestTypes(t *testing.T) {
	l := []int{value.Bool, value.Int, value.Float, value.Complex, value.Text, value.Bytes}
	if !slices.Equal(l, []int{1, 2, 3, 4, 5, 6}) {
		t.Error(l)
	}
}

func TestP61Right(t *testing.T) {
	nan, negative := number(0x7FF8000000000001, 0), number(1<<63, 0)
	long := strings.Repeat("x", 2049)
	for _, x := range []struct {
		name string
		v    value.Value
		e    api.Errno
	}{
		{"nothing", value.Value{}, api.ErrType},
		{"the type 7", value.Value{Type: 7}, api.ErrType},
		{"the greatest type", value.Value{Type: 255}, api.ErrType},
		{"no", value.Value{Type: 1}, api.OK},
		{"yes", value.Value{Type: 1, Int: 1}, api.OK},
		{"a bool of 2", value.Value{Type: 1, Int: 2}, api.ErrRange},
		{"a bool of -1", value.Value{Type: 1, Int: -1}, api.ErrRange},
		{"a bool of 256", value.Value{Type: 1, Int: 256}, api.ErrRange},
		{"a bool of the least int", value.Value{Type: 1, Int: math.MinInt64}, api.ErrRange},
		{"the least int", value.Value{Type: 2, Int: math.MinInt64}, api.OK},
		{"the greatest int", value.Value{Type: 2, Int: math.MaxInt64}, api.OK},
		{"-0", value.Value{Type: 3, Num: negative}, api.OK},
		{"a NaN", value.Value{Type: 3, Num: nan}, api.OK},
		{"an infinity", value.Value{Type: 3, Num: number(0xFFF0000000000000, 0)}, api.OK},
		{"a complex of NaNs", value.Value{Type: 4, Num: number(0x7FF8000000000001, 0xFFF0000000000001)}, api.OK},
		{"a complex of 0", value.Value{Type: 4}, api.OK},
		{"no text", value.Value{Type: 5}, api.OK},
		{"the bytes of a text at the edge", value.Value{Type: 5, Text: " ~"}, api.OK},
		{"the byte 31", value.Value{Type: 5, Text: "a\x1f"}, api.ErrForm},
		{"the byte 127", value.Value{Type: 5, Text: "\x7f"}, api.ErrForm},
		{"a byte above 127", value.Value{Type: 5, Text: "\xe9"}, api.ErrForm},
		{"2047 bytes", value.Value{Type: 5, Text: long[2:]}, api.OK},
		{"2048 bytes", value.Value{Type: 5, Text: long[1:]}, api.OK},
		{"2049 bytes", value.Value{Type: 5, Text: long}, api.ErrLong},
		{"no bytes", value.Value{Type: 6}, api.OK},
		{"any bytes", value.Value{Type: 6, Text: "\x00\x1f\x7f\x80\xff"}, api.OK},
		{"bytes, 2048", value.Value{Type: 6, Text: string(sample.Mixed(2048, 1))}, api.OK},
		{"bytes, 2049", value.Value{Type: 6, Text: string(sample.Mixed(2049, 1))}, api.ErrLong},

		{"a bool, and a number", value.Value{Type: 1, Num: 1}, api.ErrForm},
		{"a bool, and -0", value.Value{Type: 1, Num: negative}, api.ErrForm},
		{"a bool, and an imaginary -0", value.Value{Type: 1, Num: number(0, 1<<63)}, api.ErrForm},
		{"a bool, and a text", value.Value{Type: 1, Text: "a"}, api.ErrForm},
		{"an int, and a number", value.Value{Type: 2, Num: 1i}, api.ErrForm},
		{"an int, and -0", value.Value{Type: 2, Num: negative}, api.ErrForm},
		{"an int, and a text", value.Value{Type: 2, Text: "a"}, api.ErrForm},
		{"a float, and an int", value.Value{Type: 3, Int: 1}, api.ErrForm},
		{"a float, and an imaginary part", value.Value{Type: 3, Num: 1i}, api.ErrForm},
		{"a float, and an imaginary -0", value.Value{Type: 3, Num: number(0, 1<<63)}, api.ErrForm},
		{"a float, and an imaginary NaN", value.Value{Type: 3, Num: number(0, 0x7FF8000000000001)}, api.ErrForm},
		{"a float, and a text", value.Value{Type: 3, Text: "a"}, api.ErrForm},
		{"a complex, and an int", value.Value{Type: 4, Int: -1}, api.ErrForm},
		{"a complex, and a text", value.Value{Type: 4, Text: "\x00"}, api.ErrForm},
		{"a text, and an int", value.Value{Type: 5, Int: 1}, api.ErrForm},
		{"a text, and -0", value.Value{Type: 5, Num: negative}, api.ErrForm},
		{"a text, and a NaN", value.Value{Type: 5, Num: nan}, api.ErrForm},
		{"bytes, and an int", value.Value{Type: 6, Int: 1}, api.ErrForm},
		{"bytes, and a number", value.Value{Type: 6, Num: 1}, api.ErrForm},
		{"bytes, and an imaginary -0", value.Value{Type: 6, Num: number(0, 1<<63)}, api.ErrForm},

		{"type ahead of all", value.Value{Type: 7, Int: 1, Num: 1i, Text: long}, api.ErrType},
		{"what is not its own ahead of the range", value.Value{Type: 1, Int: 2, Text: "a"}, api.ErrForm},
		{"what is not its own ahead of the length of a text", value.Value{Type: 5, Int: 1, Text: long}, api.ErrForm},
		{"what is not its own ahead of the length of bytes", value.Value{Type: 6, Num: 1i, Text: long}, api.ErrForm},
		{"a text too long that is not its own", value.Value{Type: 2, Text: long}, api.ErrForm},
		{"length ahead of other bytes", value.Value{Type: 5, Text: long + "\x1f"}, api.ErrLong},
		{"length ahead of other bytes in front", value.Value{Type: 5, Text: "\x1f" + long}, api.ErrLong},
	} {
		if e := value.Right(x.v); e != x.e {
			t.Errorf("%s: %d, not %d", x.name, e, x.e)
		}
	}
	for _, v := range several() {
		if e := value.Right(v); e != wrong(v) {
			t.Errorf("%v: %d, not %d", v, e, wrong(v))
		}
	}
	for b := range 256 {
		if e := value.Right(value.Value{Type: 5, Text: string([]byte{byte(b)})}); (e == api.OK) != (b >= 32 && b <= 126) {
			t.Errorf("the byte %d: %d", b, e)
		}
	}
}

func TestP61Same(t *testing.T) {
	negative, nan, other := number(1<<63, 0), number(0x7FF8000000000001, 0), number(0x7FF8000000000002, 0)
	for _, x := range []struct {
		name string
		a, b value.Value
		same bool
	}{
		{"nothing", value.Value{}, value.Value{}, true},
		{"an int", value.Value{Type: 2, Int: 5}, value.Value{Type: 2, Int: 5}, true},
		{"unlike ints", value.Value{Type: 2, Int: 5}, value.Value{Type: 2, Int: -5}, false},
		{"unlike types", value.Value{Type: 1, Int: 1}, value.Value{Type: 2, Int: 1}, false},
		{"a text, and bytes", value.Value{Type: 5, Text: "a"}, value.Value{Type: 6, Text: "a"}, false},
		{"0 and -0", value.Value{Type: 3}, value.Value{Type: 3, Num: negative}, false},
		{"0 and -0, imaginary", value.Value{Type: 4}, value.Value{Type: 4, Num: number(0, 1<<63)}, false},
		{"-0", value.Value{Type: 3, Num: negative}, value.Value{Type: 3, Num: negative}, true},
		{"a NaN", value.Value{Type: 3, Num: nan}, value.Value{Type: 3, Num: nan}, true},
		{"unlike NaNs", value.Value{Type: 3, Num: nan}, value.Value{Type: 3, Num: other}, false},
		{"parts changed", value.Value{Type: 4, Num: 1}, value.Value{Type: 4, Num: 1i}, false},
		{"texts", value.Value{Type: 5, Text: "ab"}, value.Value{Type: 5, Text: "ab"}, true},
		{"unlike texts", value.Value{Type: 5, Text: "ab"}, value.Value{Type: 5, Text: "aB"}, false},
		{"a text that goes on", value.Value{Type: 5, Text: "ab"}, value.Value{Type: 5, Text: "abc"}, false},
		{"a type that is none", value.Value{Type: 9, Int: 1}, value.Value{Type: 9, Int: 1}, true},
		{"unlike types that are none", value.Value{Type: 0}, value.Value{Type: 7}, false},
		{"an int, beside an unlike text", value.Value{Type: 2, Text: "a"}, value.Value{Type: 2, Text: "b"}, false},
		{"an int, beside an unlike number", value.Value{Type: 2, Num: negative}, value.Value{Type: 2}, false},
		{"a text, beside an unlike int", value.Value{Type: 5, Int: 1}, value.Value{Type: 5}, false},
		{"a float, beside an unlike imaginary part", value.Value{Type: 3, Num: 1i}, value.Value{Type: 3, Num: 2i}, false},
		{"a bool that is none", value.Value{Type: 1, Int: 2}, value.Value{Type: 1, Int: 2}, true},
	} {
		if value.Same(x.a, x.b) != x.same || value.Same(x.b, x.a) != x.same {
			t.Errorf("%s: not %v", x.name, x.same)
		}
	}
	l := several()
	for k, a := range l {
		for _, b := range l[k%7 : min(len(l), k%7+300)] {
			if value.Same(a, b) != sample.Equal(a, b) {
				t.Fatalf("%v and %v", a, b)
			}
		}
		if !value.Same(a, a) {
			t.Fatalf("%v is not itself", a)
		}
	}
}

func TestP61BitsAndOf(t *testing.T) {
	for _, re := range patterns {
		for _, im := range patterns {
			c := value.Of(re, im)
			if math.Float64bits(real(c)) != re || math.Float64bits(imag(c)) != im {
				t.Errorf("Of(%x, %x): %x, %x", re, im, math.Float64bits(real(c)), math.Float64bits(imag(c)))
			}
			if r, i := value.Bits(number(re, im)); r != re || i != im {
				t.Errorf("Bits of %x, %x: %x, %x", re, im, r, i)
			}
		}
	}
	if c := value.Of(0x3FF0000000000000, 0xC000000000000000); c != 1-2i {
		t.Errorf("1-2i: %v", c)
	}
	if re, im := value.Bits(1 - 2i); re != 0x3FF0000000000000 || im != 0xC000000000000000 {
		t.Errorf("1-2i: %x, %x", re, im)
	}
}

// formed are bytes of values, as the chapter's table has them.
var formed = []struct {
	name     string
	v        value.Value
	one, two []byte
}{
	{"no", value.Value{Type: 1}, []byte{0}, []byte{0}},
	{"yes", value.Value{Type: 1, Int: 1}, []byte{1}, []byte{1}},
	{"0", value.Value{Type: 2}, []byte{0, 0, 0, 0, 0, 0, 0, 0}, []byte{0}},
	{"1", value.Value{Type: 2, Int: 1}, []byte{1, 0, 0, 0, 0, 0, 0, 0}, []byte{2}},
	{"-1", value.Value{Type: 2, Int: -1}, bytes.Repeat([]byte{255}, 8), []byte{1}},
	{"150", value.Value{Type: 2, Int: 150}, []byte{150, 0, 0, 0, 0, 0, 0, 0}, []byte{172, 2}},
	{"one of eight bytes", value.Value{Type: 2, Int: 0x0102030405060708}, []byte{8, 7, 6, 5, 4, 3, 2, 1}, []byte{144, 156, 176, 208, 128, 193, 129, 130, 2}},
	{"the least int", value.Value{Type: 2, Int: math.MinInt64}, []byte{0, 0, 0, 0, 0, 0, 0, 128}, []byte{255, 255, 255, 255, 255, 255, 255, 255, 255, 1}},
	{"the greatest int", value.Value{Type: 2, Int: math.MaxInt64}, []byte{255, 255, 255, 255, 255, 255, 255, 127}, []byte{254, 255, 255, 255, 255, 255, 255, 255, 255, 1}},
	{"0.0", value.Value{Type: 3}, []byte{0, 0, 0, 0, 0, 0, 0, 0}, []byte{0}},
	{"2.0", value.Value{Type: 3, Num: 2}, []byte{0, 0, 0, 0, 0, 0, 0, 64}, []byte{64}},
	{"1.0", value.Value{Type: 3, Num: 1}, []byte{0, 0, 0, 0, 0, 0, 240, 63}, []byte{191, 224, 3}},
	{"-0", value.Value{Type: 3, Num: number(1<<63, 0)}, []byte{0, 0, 0, 0, 0, 0, 0, 128}, []byte{128, 1}},
	{"the least float", value.Value{Type: 3, Num: number(1, 0)}, []byte{1, 0, 0, 0, 0, 0, 0, 0}, []byte{128, 128, 128, 128, 128, 128, 128, 128, 1}},
	{"a NaN", value.Value{Type: 3, Num: number(math.MaxUint64, 0)}, bytes.Repeat([]byte{255}, 8), []byte{255, 255, 255, 255, 255, 255, 255, 255, 255, 1}},
	{"0+0i", value.Value{Type: 4}, make([]byte, 16), []byte{0}},
	{"2", value.Value{Type: 4, Num: 2}, []byte{0, 0, 0, 0, 0, 0, 0, 64, 0, 0, 0, 0, 0, 0, 0, 0}, []byte{1, 64}},
	{"2i", value.Value{Type: 4, Num: 2i}, []byte{0, 0, 0, 0, 0, 0, 0, 0, 0, 0, 0, 0, 0, 0, 0, 64}, []byte{2, 64}},
	{"1+2i", value.Value{Type: 4, Num: 1 + 2i}, []byte{0, 0, 0, 0, 0, 0, 240, 63, 0, 0, 0, 0, 0, 0, 0, 64}, []byte{3, 191, 224, 3, 64}},
	{"-0 and -0 i", value.Value{Type: 4, Num: number(1<<63, 1<<63)}, []byte{0, 0, 0, 0, 0, 0, 0, 128, 0, 0, 0, 0, 0, 0, 0, 128}, []byte{3, 128, 1, 128, 1}},
	{"no text", value.Value{Type: 5}, []byte{0}, []byte{0}},
	{"ab", value.Value{Type: 5, Text: "ab"}, []byte{2, 97, 98}, []byte{2, 97, 98}},
	{"a text of 128", value.Value{Type: 5, Text: strings.Repeat("~", 128)}, sample.Join([]byte{128, 1}, bytes.Repeat([]byte{126}, 128)), sample.Join([]byte{128, 1}, bytes.Repeat([]byte{126}, 128))},
	{"a text of 2048", value.Value{Type: 5, Text: strings.Repeat(" ", 2048)}, sample.Join([]byte{128, 16}, bytes.Repeat([]byte{32}, 2048)), sample.Join([]byte{128, 16}, bytes.Repeat([]byte{32}, 2048))},
	{"no bytes", value.Value{Type: 6}, []byte{0}, []byte{0}},
	{"bytes", value.Value{Type: 6, Text: "\x00\x7f\xff"}, []byte{3, 0, 127, 255}, []byte{3, 0, 127, 255}},
	{"bytes, 2047", value.Value{Type: 6, Text: string(sample.Mixed(2047, 2))}, sample.Join([]byte{255, 15}, sample.Mixed(2047, 2)), sample.Join([]byte{255, 15}, sample.Mixed(2047, 2))},
}

func TestP62Put(t *testing.T) {
	for _, x := range formed {
		for version, want := range map[uint8][]byte{1: x.one, 2: x.two} {
			for _, ahead := range [][]byte{nil, {}, {9}, sample.Mixed(50, 3)} {
				b, e := value.Put(ahead, x.v, version)
				if e != api.OK || !bytes.Equal(b, sample.Join(ahead, want)) {
					t.Errorf("%s in version %d behind %d bytes: %v, error %d", x.name, version, len(ahead), b, e)
				}
			}
		}
	}
}

// putByWords is Put as the promise says it.
func putByWords(b []byte, v value.Value, version uint8) ([]byte, api.Errno) {
	if version != 1 && version != 2 {
		return nil, api.ErrVersion
	}
	if e := wrong(v); e != api.OK {
		return nil, e
	}
	b = bytes.Clone(b)
	float := func(u uint64) {
		if version == 1 {
			for k := range 8 {
				b = append(b, byte(u>>(8*k)))
			}
			return
		}
		var turned uint64
		for k := range 8 {
			turned = turned<<8 | u>>(8*k)&255
		}
		b = prim.PutUint(b, turned)
	}
	re, im := math.Float64bits(real(v.Num)), math.Float64bits(imag(v.Num))
	switch {
	case v.Type == value.Bool:
		b = append(b, byte(v.Int))
	case v.Type == value.Int && version == 1:
		float(uint64(v.Int))
	case v.Type == value.Int:
		b = prim.PutInt(b, v.Int)
	case v.Type == value.Float:
		float(re)
	case v.Type == value.Complex && version == 1:
		float(re)
		float(im)
	case v.Type == value.Complex:
		b = append(b, 0)
		has := &b[len(b)-1]
		if re != 0 {
			*has++
		}
		if im != 0 {
			*has += 2
		}
		if re != 0 {
			float(re)
		}
		if im != 0 {
			float(im)
		}
	default:
		b = prim.PutText(b, v.Text)
	}
	return b, api.OK
}

func TestP62PutByItsWords(t *testing.T) {
	for _, v := range several() {
		for _, version := range []uint8{0, 1, 2, 3, 255} {
			want, wantE := putByWords([]byte("ab"), v, version)
			b, e := value.Put([]byte("ab"), v, version)
			if e != wantE || !bytes.Equal(b, want) {
				t.Fatalf("%v in version %d: %v, error %d, not %v, %d", v, version, b, e, want, wantE)
			}
		}
	}
}

func TestP62PutWrong(t *testing.T) {
	for _, x := range []struct {
		name    string
		v       value.Value
		version uint8
		e       api.Errno
	}{
		{"no version", value.Value{Type: 1}, 0, api.ErrVersion},
		{"the version behind the last one", value.Value{Type: 1}, 3, api.ErrVersion},
		{"the greatest version there could be", value.Value{Type: 1}, 255, api.ErrVersion},
		{"version ahead of type", value.Value{Type: 7}, 3, api.ErrVersion},
		{"version ahead of form", value.Value{Type: 1, Text: "a"}, 0, api.ErrVersion},
		{"no type", value.Value{}, 1, api.ErrType},
		{"the type behind the last one", value.Value{Type: 7}, 2, api.ErrType},
		{"a bool of 2", value.Value{Type: 1, Int: 2}, 2, api.ErrRange},
		{"a bool of -1", value.Value{Type: 1, Int: -1}, 1, api.ErrRange},
		{"a float with an imaginary -0", value.Value{Type: 3, Num: number(0, 1<<63)}, 2, api.ErrForm},
		{"a text of 2049", value.Value{Type: 5, Text: strings.Repeat("a", 2049)}, 2, api.ErrLong},
		{"bytes, 2049", value.Value{Type: 6, Text: strings.Repeat("a", 2049)}, 1, api.ErrLong},
		{"a text with the byte 127", value.Value{Type: 5, Text: "\x7f"}, 2, api.ErrForm},
		{"a text with the byte 31", value.Value{Type: 5, Text: "\x1f"}, 1, api.ErrForm},
	} {
		if b, e := value.Put([]byte{1, 2, 3}, x.v, x.version); e != x.e || len(b) != 0 {
			t.Errorf("%s: %v, error %d, not %d", x.name, b, e, x.e)
		}
	}
}

func TestP62Take(t *testing.T) {
	for _, x := range formed {
		for version, b := range map[uint8][]byte{1: x.one, 2: x.two} {
			for _, behind := range [][]byte{nil, {0}, sample.Mixed(50, 4)} {
				r := prim.Read(sample.Join(b, behind))
				v := value.Take(r, x.v.Type, version)
				if !sample.Equal(v, x.v) || r.Err() != api.OK || r.Left() != len(behind) {
					t.Errorf("%s in version %d ahead of %d bytes: %v, error %d, %d left", x.name, version, len(behind), v, r.Err(), r.Left())
				}
			}
			// Bytes that end ahead of each part's end.
			for n := range b {
				r := prim.Read(b[:n])
				v := value.Take(r, x.v.Type, version)
				if !sample.Equal(v, value.Value{}) || r.Err() != api.ErrShort || r.Left() != 0 {
					t.Fatalf("%s in version %d, the first %d bytes: %v, error %d", x.name, version, n, v, r.Err())
				}
			}
		}
	}
}

func TestP62TakeWrong(t *testing.T) {
	tens := bytes.Repeat([]byte{128}, 10)
	for _, x := range []struct {
		name          string
		b             []byte
		kind, version uint8
		e             api.Errno
	}{
		{"no version", []byte{0}, 1, 0, api.ErrVersion},
		{"the version behind the last one", []byte{0}, 1, 3, api.ErrVersion},
		{"the greatest version there could be", []byte{0}, 6, 255, api.ErrVersion},
		{"version ahead of type", []byte{0}, 7, 3, api.ErrVersion},
		{"version ahead of the bytes' end", nil, 1, 0, api.ErrVersion},
		{"no type", []byte{0}, 0, 1, api.ErrType},
		{"the type behind the last one", []byte{0}, 7, 2, api.ErrType},
		{"the greatest type there could be", []byte{0}, 255, 2, api.ErrType},
		{"type ahead of the bytes' end", nil, 0, 1, api.ErrType},

		{"a bool of 2", []byte{2}, 1, 1, api.ErrRange},
		{"a bool of 2, version 2", []byte{2}, 1, 2, api.ErrRange},
		{"a bool of 255", []byte{255, 0}, 1, 2, api.ErrRange},
		{"an int of 7 bytes", make([]byte, 7), 2, 1, api.ErrShort},
		{"an int longer than it is", []byte{128, 0}, 2, 2, api.ErrOver},
		{"an int too great", sample.Join(tens[:9], []byte{2}), 2, 2, api.ErrOver},
		{"an int without end", tens, 2, 2, api.ErrOver},
		{"a float of 7 bytes", make([]byte, 7), 3, 1, api.ErrShort},
		{"a float longer than it is", []byte{192, 0}, 3, 2, api.ErrOver},
		{"a float too great", sample.Join(tens[:9], []byte{2}), 3, 2, api.ErrOver},
		{"a complex of 15 bytes", make([]byte, 15), 4, 1, api.ErrShort},
		{"a first byte of 4", []byte{4}, 4, 2, api.ErrRange},
		{"a first byte of 4, and parts", []byte{4, 64, 64}, 4, 2, api.ErrRange},
		{"a first byte of 255", []byte{255, 64, 64}, 4, 2, api.ErrRange},
		{"no real part", []byte{1}, 4, 2, api.ErrShort},
		{"no imaginary part", []byte{2}, 4, 2, api.ErrShort},
		{"a real part alone, of two", []byte{3, 64}, 4, 2, api.ErrShort},
		{"a real part of 0", []byte{1, 0}, 4, 2, api.ErrForm},
		{"an imaginary part of 0", []byte{2, 0}, 4, 2, api.ErrForm},
		{"both, the real one 0", []byte{3, 0, 64}, 4, 2, api.ErrForm},
		{"both, the imaginary one 0", []byte{3, 64, 0}, 4, 2, api.ErrForm},
		{"a real part of 0 ahead of an imaginary one's end", []byte{3, 0}, 4, 2, api.ErrForm},
		{"a real part of 0 ahead of an imaginary one longer than it is", []byte{3, 0, 128, 0}, 4, 2, api.ErrForm},
		{"a real part longer than it is ahead of an imaginary one of 0", []byte{3, 128, 0, 0}, 4, 2, api.ErrOver},
		{"an imaginary part longer than it is", []byte{3, 64, 192, 0}, 4, 2, api.ErrOver},

		{"a text that ends", []byte{3, 97, 98}, 5, 1, api.ErrShort},
		{"a text that ends, with another byte", []byte{3, 0, 0}, 5, 2, api.ErrShort},
		{"a length that ends", []byte{128}, 5, 2, api.ErrShort},
		{"a length longer than it is", []byte{129, 0, 97}, 5, 2, api.ErrOver},
		{"a text of 2049", sample.Join([]byte{129, 16}, bytes.Repeat([]byte{97}, 2049)), 5, 2, api.ErrRange},
		{"a text of 2049, and no bytes", []byte{129, 16}, 5, 1, api.ErrRange},
		{"a text of 2049, with another byte", sample.Join([]byte{129, 16}, make([]byte, 2049)), 5, 2, api.ErrRange},
		{"the greatest length there could be", sample.Join(bytes.Repeat([]byte{255}, 9), []byte{1}), 5, 2, api.ErrRange},
		{"the byte 31", []byte{2, 97, 31}, 5, 1, api.ErrForm},
		{"the byte 127", []byte{2, 127, 97}, 5, 2, api.ErrForm},
		{"the byte 128", []byte{1, 128}, 5, 2, api.ErrForm},
		{"the byte 31 at the end of 2048", sample.Join([]byte{128, 16}, bytes.Repeat([]byte{97}, 2047), []byte{31}), 5, 2, api.ErrForm},
		{"bytes that end", []byte{1}, 6, 1, api.ErrShort},
		{"bytes, 2049", sample.Join([]byte{129, 16}, sample.Mixed(2049, 1)), 6, 2, api.ErrRange},
		{"bytes, 2049, version 1", sample.Join([]byte{129, 16}, sample.Mixed(2049, 1)), 6, 1, api.ErrRange},
	} {
		r := prim.Read(x.b)
		v := value.Take(r, x.kind, x.version)
		if !sample.Equal(v, value.Value{}) || r.Err() != x.e || r.Left() != 0 {
			t.Errorf("%s: %v, error %d, not %d, %d left", x.name, v, r.Err(), x.e, r.Left())
		}
		if again := value.Take(r, 1, 1); !sample.Equal(again, value.Value{}) || r.Err() != x.e {
			t.Errorf("%s, taken on: %v, error %d", x.name, again, r.Err())
		}
	}
}

func TestP62GivenUp(t *testing.T) {
	for _, e := range []api.Errno{api.ErrShort, api.ErrForm, api.ErrRange, api.ErrSum, api.ErrOp, 99, -1} {
		for _, kind := range types {
			for _, version := range []uint8{0, 1, 2, 3} {
				r := prim.Read(make([]byte, 40))
				r.Fail(e)
				if v := value.Take(r, kind, version); !sample.Equal(v, value.Value{}) || r.Err() != e || r.Left() != 0 {
					t.Errorf("given up with %d, type %d, version %d: %v, error %d", e, kind, version, v, r.Err())
				}
			}
		}
	}
}

// takeByWords is Take as the promise says it: the value, how many bytes it has, and the error.
func takeByWords(b []byte, kind, version uint8) (value.Value, int, api.Errno) {
	if version != 1 && version != 2 {
		return value.Value{}, 0, api.ErrVersion
	}
	if kind < 1 || kind > 6 {
		return value.Value{}, 0, api.ErrType
	}
	r := prim.Read(b)
	float := func() uint64 {
		if version == 1 {
			return r.Word()
		}
		u := r.Uint(math.MaxUint64)
		var turned uint64
		for k := range 8 {
			turned |= u >> (56 - 8*k) & 255 << (8 * k)
		}
		return turned
	}
	v := value.Value{Type: kind}
	var own api.Errno // what is wrong beside what the reader tells by itself
	switch kind {
	case 1:
		v.Int = int64(r.Byte())
		if v.Int > 1 {
			own = api.ErrRange
		}
	case 2:
		if version == 1 {
			v.Int = int64(r.Word())
		} else {
			v.Int = r.Int()
		}
	case 3:
		v.Num = number(float(), 0)
	case 4:
		has := byte(3)
		if version == 2 {
			has = r.Byte()
		}
		if has > 3 {
			own = api.ErrRange
			break
		}
		var re, im uint64
		if has == 1 || has == 3 {
			re = float()
			if re == 0 && version == 2 && r.Err() == api.OK {
				own = api.ErrForm
				break
			}
		}
		if has >= 2 {
			im = float()
			if im == 0 && version == 2 {
				own = api.ErrForm
			}
		}
		v.Num = number(re, im)
	default:
		v.Text = r.Text(2048)
		if kind == 5 && strings.ContainsFunc(v.Text, func(c rune) bool { return c < 32 || c > 126 }) {
			own = api.ErrForm
		}
	}
	e := r.Err()
	if e == api.OK {
		e = own
	}
	if e != api.OK {
		return value.Value{}, 0, e
	}
	return v, len(b) - r.Left(), api.OK
}

// taken holds Take against the promise's words, and what is taken against what is put.
func taken(t *testing.T, b []byte, kind, version uint8) {
	t.Helper()
	want, size, wantE := takeByWords(b, kind, version)
	r := prim.Read(b)
	v := value.Take(r, kind, version)
	if !sample.Equal(v, want) || r.Err() != wantE {
		t.Fatalf("%v as %d in version %d: %v, error %d, not %v, %d", b, kind, version, v, r.Err(), want, wantE)
	}
	if wantE != api.OK {
		return
	}
	if r.Left() != len(b)-size {
		t.Fatalf("%v as %d in version %d: %d left", b, kind, version, r.Left())
	}
	if again, e := value.Put(nil, v, version); e != api.OK || !bytes.Equal(again, b[:size]) {
		t.Fatalf("%v as %d in version %d is taken, but put as %v, error %d", b, kind, version, again, e)
	}
}

func TestP63FromNoOtherBytes(t *testing.T) {
	for _, version := range []uint8{0, 1, 2, 3} {
		for _, kind := range types {
			taken(t, nil, kind, version)
			for n := range 1 << 16 {
				taken(t, []byte{byte(n), byte(n >> 8)}, kind, version)
				if n < 256 {
					taken(t, []byte{byte(n)}, kind, version)
					taken(t, sample.Join([]byte{byte(n)}, sample.Mixed(20, uint32(n))), kind, version)
				}
			}
			for seed := range uint32(3000) {
				taken(t, sample.Mixed(int(seed%24), seed), kind, version)
				taken(t, sample.Join([]byte{byte(seed % 5)}, sample.Mixed(int(seed%24), seed)), kind, version)
			}
		}
	}
	// A byte of right bytes is another one.
	for _, v := range rights() {
		if len(v.Text) > 200 {
			continue
		}
		for version := uint8(1); version <= 2; version++ {
			b, _ := value.Put(nil, v, version)
			for k := range b {
				for _, turn := range []byte{1, 2, 64, 127, 128, 255} {
					b[k] ^= turn
					taken(t, b, v.Type, version)
					b[k] ^= turn
				}
			}
			taken(t, append(b, 0), v.Type, version)
		}
	}
}

func TestP63PutAndTaken(t *testing.T) {
	l := rights()
	for version := uint8(1); version <= 2; version++ {
		var b []byte
		for k, v := range l {
			one, e := value.Put(nil, v, version)
			if e != api.OK {
				t.Fatalf("%v: error %d", v, e)
			}
			r := prim.Read(one)
			if w := value.Take(r, v.Type, version); !sample.Equal(v, w) || !value.Same(v, w) || r.End() != api.OK {
				t.Fatalf("%v in version %d: %v, error %d", v, version, w, r.End())
			}
			// Some of them one behind the other.
			if k%10 == 0 {
				b, _ = value.Put(b, v, version)
			}
		}
		r := prim.Read(b)
		for k := 0; k < len(l); k += 10 {
			if w := value.Take(r, l[k].Type, version); !sample.Equal(l[k], w) {
				t.Fatalf("%v in version %d, behind others: %v", l[k], version, w)
			}
		}
		if e := r.End(); e != api.OK {
			t.Errorf("all of them in version %d: error %d", version, e)
		}
	}
}

func TestP63Lengths(t *testing.T) {
	for _, n := range []int{0, 1, 127, 128, 129, 2047, 2048} {
		for _, v := range []value.Value{
			{Type: value.Text, Text: strings.Repeat("~", n)},
			{Type: value.Bytes, Text: string(sample.Mixed(n, uint32(n)))},
		} {
			for version := uint8(1); version <= 2; version++ {
				b, e := value.Put(nil, v, version)
				if want := prim.PutText(nil, v.Text); e != api.OK || !bytes.Equal(b, want) {
					t.Errorf("%d bytes of type %d in version %d: error %d", n, v.Type, version, e)
				}
				r := prim.Read(b)
				if w := value.Take(r, v.Type, version); !sample.Equal(v, w) || r.End() != api.OK {
					t.Errorf("%d bytes of type %d in version %d: taken with error %d", n, v.Type, version, r.End())
				}
			}
		}
	}
}

func TestR4Put(t *testing.T) {
	for _, v := range []value.Value{
		{Type: 1, Int: 1}, {Type: 2, Int: 7}, {Type: 3, Num: 2}, {Type: 4, Num: 1 + 2i}, {Type: 5, Text: "ab"}, {Type: 6, Text: "\x00"}, {Type: 5},
	} {
		for version := uint8(1); version <= 2; version++ {
			room := bytes.Repeat([]byte{9}, 60)
			kept := bytes.Clone(room)
			one, _ := value.Put(room[:3], v, version)
			two, _ := value.Put(room[:3], v, version)
			want := bytes.Clone(two)
			if !bytes.Equal(room, kept) {
				t.Errorf("%v in version %d: what is handed in is changed, or what is behind it", v, version)
			}
			for k := range one {
				one[k] = 77
			}
			_ = append(one, 88, 88)
			if !bytes.Equal(room, kept) || !bytes.Equal(two, want) {
				t.Errorf("%v in version %d: an answer shares memory", v, version)
			}
		}
	}
}

func TestR6TakeAgain(t *testing.T) {
	b := []byte{3, 191, 224, 3, 64}
	for range 3 {
		r := prim.Read(b)
		other := prim.Read([]byte{4})
		value.Take(other, 4, 2)
		if v := value.Take(r, 4, 2); !sample.Equal(v, value.Value{Type: 4, Num: 1 + 2i}) || r.End() != api.OK {
			t.Errorf("%v, error %d", v, r.End())
		}
	}
}

func TestExamples(t *testing.T) {
	if b, e := value.Put(nil, value.Value{Type: value.Int, Int: -1}, 2); e != api.OK || !bytes.Equal(b, []byte{1}) {
		t.Errorf("-1: %v, error %d", b, e)
	}
	v := value.Value{Type: value.Complex, Num: 2i}
	if b, e := value.Put(nil, v, 2); e != api.OK || !bytes.Equal(b, []byte{2, 64}) {
		t.Errorf("2i in version 2: %v, error %d", b, e)
	}
	if b, e := value.Put(nil, v, 1); e != api.OK || !bytes.Equal(b, []byte{0, 0, 0, 0, 0, 0, 0, 0, 0, 0, 0, 0, 0, 0, 0, 64}) {
		t.Errorf("2i in version 1: %v, error %d", b, e)
	}
}
