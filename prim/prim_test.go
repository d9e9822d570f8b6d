package prim_test

import (
	"bytes"
	"math"
	"slices"
	"strings"
	"testing"

	"lacuna/api"
	"lacuna/prim"
	"lacuna/sample"
)

const all = math.MaxUint64 // the greatest most

// times is k bytes, each of them v.
func times(k int, v byte) []byte { return bytes.Repeat([]byte{v}, k) }

func TestP11PutUint(t *testing.T) {
	for _, x := range []struct {
		v uint64
		b []byte
	}{
		{0, []byte{0}},
		{1, []byte{1}},
		{127, []byte{127}},
		{128, []byte{128, 1}},
		{300, []byte{172, 2}},
		{16383, []byte{255, 127}},
		{16384, []byte{128, 128, 1}},
		{1<<63 - 1, sample.Join(times(8, 255), []byte{127})},
		{1 << 63, sample.Join(times(9, 128), []byte{1})},
		{math.MaxUint64, sample.Join(times(9, 255), []byte{1})},
	} {
		if b := prim.PutUint(nil, x.v); !bytes.Equal(b, x.b) {
			t.Errorf("%d: %v, not %v", x.v, b, x.b)
		}
		if b := prim.PutUint([]byte{7, 8}, x.v); !bytes.Equal(b, sample.Join([]byte{7, 8}, x.b)) {
			t.Errorf("%d behind 7 8: %v", x.v, b)
		}
	}
}

func TestP11PutInt(t *testing.T) {
	for _, x := range []struct {
		v int64
		b []byte
	}{
		{0, []byte{0}},
		{-1, []byte{1}},
		{1, []byte{2}},
		{-2, []byte{3}},
		{63, []byte{126}},
		{-64, []byte{127}},
		{64, []byte{128, 1}},
		{math.MaxInt64, sample.Join([]byte{254}, times(8, 255), []byte{1})},
		{math.MinInt64, sample.Join(times(9, 255), []byte{1})},
	} {
		if b := prim.PutInt(nil, x.v); !bytes.Equal(b, x.b) {
			t.Errorf("%d: %v, not %v", x.v, b, x.b)
		}
		if b := prim.PutInt([]byte{7, 8}, x.v); !bytes.Equal(b, sample.Join([]byte{7, 8}, x.b)) {
			t.Errorf("%d behind 7 8: %v", x.v, b)
		}
	}
}

func TestP11PutText(t *testing.T) {
	for _, x := range []struct {
		s    string
		head []byte
	}{
		{"", []byte{0}},
		{"ab", []byte{2}},
		{"\x00\xff\n", []byte{3}},
		{strings.Repeat("x", 127), []byte{127}},
		{strings.Repeat("x", 128), []byte{128, 1}},
		{strings.Repeat("x", 300), []byte{172, 2}},
	} {
		want := sample.Join(x.head, []byte(x.s))
		if b := prim.PutText(nil, x.s); !bytes.Equal(b, want) {
			t.Errorf("%q: %v", x.s, b)
		}
		if b := prim.PutText([]byte{7, 8}, x.s); !bytes.Equal(b, sample.Join([]byte{7, 8}, want)) {
			t.Errorf("%q behind 7 8: %v", x.s, b)
		}
	}
}

// puts are the three calls that put something, each with something to put.
var puts = map[string]func(b []byte) []byte{
	"PutUint": func(b []byte) []byte { return prim.PutUint(b, 300) },
	"PutInt":  func(b []byte) []byte { return prim.PutInt(b, -1) },
	"PutText": func(b []byte) []byte { return prim.PutText(b, "ab") },
	"empty":   func(b []byte) []byte { return prim.PutText(b, "") },
}

func TestR4Puts(t *testing.T) {
	for name, put := range puts {
		room := []byte{1, 2, 3, 4, 5, 6, 7, 8, 9}
		whole := bytes.Clone(room)
		first := put(room[:2])
		if !bytes.Equal(room, whole) {
			t.Errorf("%s: it wrote behind what was handed in: %v", name, room)
		}
		second := put(first)
		kept := bytes.Clone(second)
		if third := put(first); !bytes.Equal(third, second) {
			t.Errorf("%s: the same, and another answer: %v, %v", name, second, third)
		}
		for i := range first {
			first[i] ^= 255
		}
		if !bytes.Equal(room, whole) || !bytes.Equal(second, kept) {
			t.Errorf("%s: an answer shares memory", name)
		}
	}
}

func TestR3Puts(t *testing.T) {
	for name, put := range puts {
		if !bytes.Equal(put(nil), put([]byte{})) {
			t.Errorf("%s: nil and empty are not one", name)
		}
	}
}

func TestP12Uint(t *testing.T) {
	for _, x := range []struct {
		name string
		b    []byte
		most uint64
		v    uint64
		left int
		e    api.Errno
	}{
		{"nothing", nil, all, 0, 0, api.ErrShort},
		{"0", []byte{0}, 0, 0, 0, api.OK},
		{"127 and more", []byte{127, 9, 9}, all, 127, 2, api.OK},
		{"300", []byte{172, 2, 5}, 300, 300, 1, api.OK},
		{"300 of 299", []byte{172, 2, 5}, 299, 0, 0, api.ErrRange},
		{"10 of 9", []byte{10}, 9, 0, 0, api.ErrRange},
		{"9 of 9", []byte{9}, 9, 9, 0, api.OK},
		{"1 of 0", []byte{1, 1}, 0, 0, 0, api.ErrRange},
		{"one seven, no last one", []byte{128}, all, 0, 0, api.ErrShort},
		{"nine sevens, no last one", times(9, 255), all, 0, 0, api.ErrShort},
		{"nine noughts, no last one", times(9, 128), all, 0, 0, api.ErrShort},
		{"the greatest", sample.Join(times(9, 255), []byte{1}), all, all, 0, api.OK},
		{"the greatest, and more", sample.Join(times(9, 255), []byte{1, 77}), all, all, 1, api.OK},
		{"the greatest of one less", sample.Join(times(9, 255), []byte{1}), all - 1, 0, 0, api.ErrRange},
		{"2^63", sample.Join(times(9, 128), []byte{1}), all, 1 << 63, 0, api.OK},
		{"tenth 0", sample.Join(times(9, 255), []byte{0}), all, 0, 0, api.ErrOver},
		{"tenth 2", sample.Join(times(9, 128), []byte{2}), all, 0, 0, api.ErrOver},
		{"tenth 127", sample.Join(times(9, 255), []byte{127}), all, 0, 0, api.ErrOver},
		{"tenth 128, and then the end", times(10, 128), all, 0, 0, api.ErrOver},
		{"tenth 129, and then 0", sample.Join(times(10, 129), []byte{0}), all, 0, 0, api.ErrOver},
		{"eleven", sample.Join(times(10, 255), []byte{1}), all, 0, 0, api.ErrOver},
		{"0 in two", []byte{128, 0}, all, 0, 0, api.ErrOver},
		{"1 in two", []byte{129, 0}, all, 0, 0, api.ErrOver},
		{"0 in three", []byte{128, 128, 0, 3}, all, 0, 0, api.ErrOver},
		{"a nought in the midst", []byte{128, 128, 1}, all, 16384, 0, api.OK},
		{"too long ahead of above most", []byte{255, 0}, 5, 0, 0, api.ErrOver},
		{"too short ahead of above most", []byte{255}, 5, 0, 0, api.ErrShort},
	} {
		r := prim.Read(x.b)
		v := r.Uint(x.most)
		if v != x.v || r.Left() != x.left || r.Err() != x.e {
			t.Errorf("%s: %d, %d left, error %d", x.name, v, r.Left(), r.Err())
		}
	}
}

// uintByWords is Uint as the promise says it, sentence by sentence.
func uintByWords(b []byte, most uint64) (uint64, int, api.Errno) {
	ten := b[:min(10, len(b))]
	last := slices.IndexFunc(ten, func(d byte) bool { return d < 128 })
	switch {
	case last < 0 && len(ten) < 10:
		return 0, 0, api.ErrShort
	case last < 0, last == 9 && ten[9] > 1, last > 0 && ten[last] == 0:
		return 0, 0, api.ErrOver
	}
	var v uint64
	for i := last; i >= 0; i-- {
		v = v*128 + uint64(ten[i]%128)
	}
	if v > most {
		return 0, 0, api.ErrRange
	}
	return v, last + 1, api.OK
}

// heads are bytes of all kinds: 0 to 11 sevens, then each byte, then perhaps more.
func heads(yield func([]byte) bool) {
	for k := range 12 {
		for _, seven := range []byte{128, 129, 200, 255} {
			for _, last := range []byte{0, 1, 2, 3, 63, 64, 126, 127, 128, 129, 254, 255} {
				for _, more := range []string{"", "\x00", "\x01", "\x80", "\x05\x00"} {
					b := sample.Join(times(k, seven), []byte{last}, []byte(more))
					if !yield(b) || !yield(b[:k]) {
						return
					}
				}
			}
		}
	}
}

func TestP12UintByItsWords(t *testing.T) {
	for b := range heads {
		for _, most := range []uint64{0, 1, 127, 128, 300, math.MaxUint32, math.MaxInt64, all} {
			v, n, e := uintByWords(b, most)
			left := len(b) - n
			if e != api.OK {
				left = 0
			}
			r := prim.Read(b)
			if got := r.Uint(most); got != v || r.Left() != left || r.Err() != e {
				t.Fatalf("%v up to %d: %d, %d left, error %d; not %d, %d, %d", b, most, got, r.Left(), r.Err(), v, left, e)
			}
		}
	}
}

func TestP12Int(t *testing.T) {
	for _, x := range []struct {
		b    []byte
		v    int64
		left int
		e    api.Errno
	}{
		{[]byte{0}, 0, 0, api.OK},
		{[]byte{1}, -1, 0, api.OK},
		{[]byte{2, 2}, 1, 1, api.OK},
		{[]byte{127}, -64, 0, api.OK},
		{[]byte{128, 1}, 64, 0, api.OK},
		{sample.Join([]byte{254}, times(8, 255), []byte{1}), math.MaxInt64, 0, api.OK},
		{sample.Join(times(9, 255), []byte{1}), math.MinInt64, 0, api.OK},
		{nil, 0, 0, api.ErrShort},
		{[]byte{129}, 0, 0, api.ErrShort},
		{[]byte{129, 0}, 0, 0, api.ErrOver},
		{sample.Join(times(9, 255), []byte{2}), 0, 0, api.ErrOver},
		{times(10, 255), 0, 0, api.ErrOver},
	} {
		r := prim.Read(x.b)
		if v := r.Int(); v != x.v || r.Left() != x.left || r.Err() != x.e {
			t.Errorf("%v: %d, %d left, error %d", x.b, v, r.Left(), r.Err())
		}
	}
}

func TestP12Text(t *testing.T) {
	for _, x := range []struct {
		name string
		b    string
		most int
		s    string
		left int
		e    api.Errno
	}{
		{"empty", "\x00", 0, "", 0, api.OK},
		{"empty, a most below 0", "\x00", -1, "", 0, api.OK},
		{"empty, the least most", "\x00z", math.MinInt, "", 1, api.OK},
		{"one, a most below 0", "\x01a", -1, "", 0, api.ErrRange},
		{"one, most 0", "\x01a", 0, "", 0, api.ErrRange},
		{"just most", "\x03abc", 3, "abc", 0, api.OK},
		{"just most, and more", "\x03abcd", 3, "abc", 1, api.OK},
		{"above most", "\x03abc", 2, "", 0, api.ErrRange},
		{"above most, and too short", "\x03a", 2, "", 0, api.ErrRange},
		{"too short", "\x03ab", 9, "", 0, api.ErrShort},
		{"too short, the greatest most", "\x03ab", math.MaxInt, "", 0, api.ErrShort},
		{"2^63 - 1 bytes", "\xff\xff\xff\xff\xff\xff\xff\xff\x7fab", math.MaxInt64, "", 0, api.ErrShort},
		{"2^63 bytes", "\x80\x80\x80\x80\x80\x80\x80\x80\x80\x01ab", math.MaxInt64, "", 0, api.ErrRange},
		{"no length", "", 9, "", 0, api.ErrShort},
		{"half a length", "\x83", 9, "", 0, api.ErrShort},
		{"a length too long", "\x82\x00ab", 9, "", 0, api.ErrOver},
		{"any bytes", "\x03\x00\xff\n", 3, "\x00\xff\n", 0, api.OK},
		{"300", "\xac\x02" + strings.Repeat("x", 300), 300, strings.Repeat("x", 300), 0, api.OK},
	} {
		r := prim.Read([]byte(x.b))
		if s := r.Text(x.most); s != x.s || r.Left() != x.left || r.Err() != x.e {
			t.Errorf("%s: %q, %d left, error %d", x.name, s, r.Left(), r.Err())
		}
	}
}

func TestP13Byte(t *testing.T) {
	r := prim.Read([]byte{255, 0, 7})
	if r.Byte() != 255 || r.Left() != 2 || r.Byte() != 0 || r.Byte() != 7 || r.Left() != 0 || r.Err() != api.OK {
		t.Error("three bytes")
	}
	if r.Byte() != 0 || r.Err() != api.ErrShort || r.End() != api.ErrShort {
		t.Error("a fourth one of three")
	}
}

func TestP13Word(t *testing.T) {
	r := prim.Read([]byte{1, 2, 3, 4, 5, 6, 7, 200, 255, 255, 255, 255, 255, 255, 255, 255, 9})
	if v := r.Word(); v != 0xc807060504030201 || r.Left() != 9 {
		t.Errorf("%x, %d left", v, r.Left())
	}
	if v := r.Word(); v != all || r.Left() != 1 || r.Err() != api.OK {
		t.Errorf("%x, %d left", v, r.Left())
	}
	for n := range 8 {
		r := prim.Read(times(n, 255))
		if v := r.Word(); v != 0 || r.Left() != 0 || r.Err() != api.ErrShort {
			t.Errorf("of %d bytes: %x, %d left, error %d", n, v, r.Left(), r.Err())
		}
	}
}

func TestP13End(t *testing.T) {
	r := prim.Read([]byte{1, 2})
	if r.End() != api.ErrLong || r.Err() != api.OK || r.Left() != 2 {
		t.Error("bytes are left: End tells it, and changes nothing")
	}
	if r.Byte() != 1 || r.End() != api.ErrLong || r.Byte() != 2 || r.End() != api.OK {
		t.Error("End on the way")
	}
	for _, b := range [][]byte{nil, {}} {
		if r := prim.Read(b); r.Left() != 0 || r.Err() != api.OK || r.End() != api.OK {
			t.Error("no byte, and nothing wrong")
		}
	}
}

func TestP13Fail(t *testing.T) {
	r := prim.Read([]byte{1, 2})
	r.Fail(api.OK)
	if r.Left() != 2 || r.Err() != api.OK || r.Byte() != 1 {
		t.Error("Fail of OK is none")
	}
	for _, e := range []api.Errno{api.ErrShort, api.ErrOp, -1, 1000, math.MaxInt, math.MinInt} {
		r := prim.Read([]byte{1, 2})
		r.Fail(e)
		r.Fail(api.ErrKind)
		r.Fail(api.OK)
		if r.Left() != 0 || r.Err() != e || r.End() != e {
			t.Errorf("Fail of %d: %d left, error %d, %d", e, r.Left(), r.Err(), r.End())
		}
	}
	r = prim.Read(nil)
	r.Fail(api.ErrForm)
	if r.End() != api.ErrForm {
		t.Error("Fail at the end")
	}
}

// ups are the ways to give up, of bytes behind which there are good ones where there can be.
var ups = []struct {
	name string
	b    string
	ask  func(r *prim.Reader)
	e    api.Errno
}{
	{"Uint, short", "\x81\x81", func(r *prim.Reader) { r.Uint(all) }, api.ErrShort},
	{"Uint, over", "\x81\x00\x01\x01a12345678", func(r *prim.Reader) { r.Uint(all) }, api.ErrOver},
	{"Uint, range", "\x09\x01\x01a12345678", func(r *prim.Reader) { r.Uint(8) }, api.ErrRange},
	{"Int, over", "\x81\x00\x01\x01a12345678", func(r *prim.Reader) { r.Int() }, api.ErrOver},
	{"Text, range", "\x01a\x01a12345678", func(r *prim.Reader) { r.Text(0) }, api.ErrRange},
	{"Text, short", "\x20a\x01a12345678", func(r *prim.Reader) { r.Text(99) }, api.ErrShort},
	{"Byte, short", "", func(r *prim.Reader) { r.Byte() }, api.ErrShort},
	{"Word, short", "\x01\x02a5678", func(r *prim.Reader) { r.Word() }, api.ErrShort},
	{"Fail", "\x01\x02a12345678", func(r *prim.Reader) { r.Fail(api.ErrType) }, api.ErrType},
}

func TestP12GivesUpForGood(t *testing.T) {
	for _, x := range ups {
		r := prim.Read([]byte(x.b))
		x.ask(r)
		for range 2 {
			if r.Err() != x.e || r.End() != x.e || r.Left() != 0 {
				t.Errorf("%s: error %d, %d, %d left", x.name, r.Err(), r.End(), r.Left())
			}
			if r.Uint(all) != 0 || r.Uint(0) != 0 || r.Int() != 0 || r.Text(9) != "" || r.Text(-1) != "" || r.Byte() != 0 || r.Word() != 0 {
				t.Errorf("%s: it answers something", x.name)
			}
			r.Fail(api.ErrNull)
		}
		if r.Err() != x.e || r.End() != x.e || r.Left() != 0 {
			t.Errorf("%s: the first error does not stay: %d", x.name, r.Err())
		}
	}
}

func TestR4Read(t *testing.T) {
	b := []byte("\x03abc\x07\xac\x02\x01\x02\x03\x04\x05\x06\x07\x08\x09")
	whole := bytes.Clone(b)
	r := prim.Read(b)
	if r.Text(3) != "abc" || r.Byte() != 7 || r.Uint(300) != 300 || r.Word() == 0 || r.Int() != -5 || r.End() != api.OK {
		t.Error("what is read")
	}
	if !bytes.Equal(b, whole) {
		t.Error("what is read is changed")
	}
	r = prim.Read(b)
	s := r.Text(3)
	clear(b)
	if s != "abc" || r.Byte() != 7 || r.Uint(300) != 300 {
		t.Error("the reader kept what was handed in")
	}
}

func TestR6Readers(t *testing.T) {
	b := []byte{172, 2, 1, 5}
	one, two := prim.Read(b), prim.Read(b)
	one.Fail(api.ErrForm)
	if two.Uint(300) != 300 || two.Int() != -1 || two.Left() != 1 || two.Err() != api.OK {
		t.Error("what is done to a reader is seen in another one")
	}
}

// edges are numbers at the ends of each count of sevens, and of bits.
func edges(yield func(uint64) bool) {
	for k := range 64 {
		for d := range uint64(3) {
			if v := uint64(1)<<k + d - 1; !yield(v) || !yield(^v) {
				return
			}
		}
	}
}

func TestP14WhatIsPutIsRead(t *testing.T) {
	for v := range edges {
		s := strings.Repeat("y", int(v%400))
		b := prim.PutInt(prim.PutText(prim.PutUint(nil, v), s), int64(v))
		r := prim.Read(b)
		if u, got, i := r.Uint(v), r.Text(len(s)), r.Int(); u != v || got != s || i != int64(v) || r.End() != api.OK {
			t.Fatalf("%d: %d, %q, %d, error %d", v, u, got, i, r.End())
		}
	}
}

// from hands out what may be the bytes of something: all of up to two, and those of many sevens.
func from(yield func([]byte) bool) {
	for n := range 1 << 16 {
		if n < 1<<8 && !yield([]byte{byte(n)}) || !yield([]byte{byte(n), byte(n >> 8)}) {
			return
		}
	}
	heads(yield)
}

func TestP14FromNoOtherBytes(t *testing.T) {
	for b := range from {
		r := prim.Read(b)
		if v := r.Uint(all); r.End() == api.OK && !bytes.Equal(prim.PutUint(nil, v), b) {
			t.Fatalf("Uint: %v is taken for %d", b, v)
		}
		r = prim.Read(b)
		if v := r.Int(); r.End() == api.OK && !bytes.Equal(prim.PutInt(nil, v), b) {
			t.Fatalf("Int: %v is taken for %d", b, v)
		}
		r = prim.Read(b)
		if s := r.Text(math.MaxInt); r.End() == api.OK && !bytes.Equal(prim.PutText(nil, s), b) {
			t.Fatalf("Text: %v is taken for %q", b, s)
		}
	}
}

func TestExamples(t *testing.T) {
	if b := prim.PutUint(nil, 300); !bytes.Equal(b, []byte{172, 2}) {
		t.Errorf("1: %v", b)
	}
	if b := prim.PutInt(nil, -1); !bytes.Equal(b, []byte{1}) {
		t.Errorf("2: %v", b)
	}
	r := prim.Read([]byte{10})
	if r.Uint(9) != 0 || r.Err() != api.ErrRange {
		t.Errorf("3: %d", r.Err())
	}
}
