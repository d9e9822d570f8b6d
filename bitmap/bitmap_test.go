package bitmap_test

import (
	"bytes"
	"math"
	"slices"
	"testing"

	"lacuna/api"
	"lacuna/bitmap"
)

// things are n things of which just some are true.
func things(n int, some ...int) []bool {
	l := make([]bool, n)
	for _, k := range some {
		l[k] = true
	}
	return l
}

func TestP21Pack(t *testing.T) {
	for _, x := range []struct {
		l []bool
		b []byte
	}{
		{nil, nil},
		{things(0), nil},
		{things(1), []byte{0}},
		{things(1, 0), []byte{1}},
		{things(3, 1, 2), []byte{6}},
		{things(8), []byte{0}},
		{things(8, 7), []byte{128}},
		{things(9), []byte{0, 0}},
		{things(9, 0, 8), []byte{1, 1}},
		{things(9, 7), []byte{128, 0}},
		{things(16), []byte{0, 0}},
		{things(16, 3, 15), []byte{8, 128}},
		{things(16, 8, 9), []byte{0, 3}},
	} {
		if b, e := bitmap.Pack(x.l...); e != api.OK || !bytes.Equal(b, x.b) {
			t.Errorf("%v: %v, error %d", x.l, b, e)
		}
	}
	for _, n := range []int{17, 18, 24, 1000} {
		if b, e := bitmap.Pack(make([]bool, n)...); e != api.ErrCount || len(b) != 0 {
			t.Errorf("%d things: %v, error %d", n, b, e)
		}
	}
}

func TestP21Unpack(t *testing.T) {
	for _, x := range []struct {
		name string
		b    []byte
		n    int
		l    []bool
		e    api.Errno
	}{
		{"none", nil, 0, nil, api.OK},
		{"three", []byte{6}, 3, things(3, 1, 2), api.OK},
		{"eight", []byte{129}, 8, things(8, 0, 7), api.OK},
		{"nine", []byte{128, 1}, 9, things(9, 7, 8), api.OK},
		{"sixteen", []byte{1, 128}, 16, things(16, 0, 15), api.OK},
		{"below 0", nil, -1, nil, api.ErrCount},
		{"far below 0", nil, math.MinInt, nil, api.ErrCount},
		{"seventeen", []byte{0, 0, 0}, 17, nil, api.ErrCount},
		{"far above", []byte{0, 0, 0}, math.MaxInt, nil, api.ErrCount},
		{"a count that can't be, ahead of no byte", nil, 17, nil, api.ErrCount},
		{"no byte of one", nil, 1, nil, api.ErrShort},
		{"no byte of eight", []byte{}, 8, nil, api.ErrShort},
		{"one byte of nine", []byte{0}, 9, nil, api.ErrShort},
		{"one byte of sixteen", []byte{255}, 16, nil, api.ErrShort},
		{"a byte of none", []byte{0}, 0, nil, api.ErrLong},
		{"two bytes of eight", []byte{0, 0}, 8, nil, api.ErrLong},
		{"three bytes of sixteen", []byte{0, 0, 0}, 16, nil, api.ErrLong},
		{"too long ahead of a bit behind", []byte{8, 0}, 3, nil, api.ErrLong},
		{"the bit behind the last one", []byte{8}, 3, nil, api.ErrForm},
		{"the last bit of seven", []byte{128}, 7, nil, api.ErrForm},
		{"a bit behind, and some that may be", []byte{255}, 3, nil, api.ErrForm},
		{"the bit behind nine", []byte{0, 2}, 9, nil, api.ErrForm},
		{"the last bit of fifteen", []byte{0, 128}, 15, nil, api.ErrForm},
	} {
		l, e := bitmap.Unpack(x.b, x.n)
		if e != x.e || !slices.Equal(l, x.l) {
			t.Errorf("%s: %v, error %d", x.name, l, e)
		}
	}
}

func TestP22Size(t *testing.T) {
	want := []int{0, 1, 1, 1, 1, 1, 1, 1, 1, 2, 2, 2, 2, 2, 2, 2, 2, 0, 0}
	for n, w := range want {
		if s := bitmap.Size(n); s != w {
			t.Errorf("%d: %d", n, s)
		}
	}
	for _, n := range []int{-1, -8, math.MinInt, 24, 1000, math.MaxInt} {
		if s := bitmap.Size(n); s != 0 {
			t.Errorf("%d: %d", n, s)
		}
	}
}

func TestP22Count(t *testing.T) {
	for n := range 40 {
		l := make([]bool, n)
		for k := range n {
			if c := bitmap.Count(l...); c != k {
				t.Errorf("%d of %d: %d", k, n, c)
			}
			l[n-1-k] = true
		}
		if c := bitmap.Count(l...); c != n {
			t.Errorf("all of %d: %d", n, c)
		}
	}
}

// bits are the n lowest bits of a number.
func bits(v, n int) []bool {
	l := make([]bool, n)
	for k := range l {
		l[k] = v>>k&1 == 1
	}
	return l
}

func TestP23PackedAndUnpacked(t *testing.T) {
	for n := range api.MaxColumns + 1 {
		for v := range 1 << n {
			l := bits(v, n)
			b, e := bitmap.Pack(l...)
			if e != api.OK || len(b) != bitmap.Size(n) {
				t.Fatalf("%v: %v, error %d", l, b, e)
			}
			if o, e := bitmap.Unpack(b, n); e != api.OK || !slices.Equal(o, l) {
				t.Fatalf("%v: %v, error %d", l, o, e)
			}
		}
	}
}

func TestP23UnpackedAndPacked(t *testing.T) {
	for n := range api.MaxColumns + 1 {
		size := bitmap.Size(n)
		for v := range 1 << (8 * size) {
			b := []byte{byte(v), byte(v >> 8)}[:size]
			l, e := bitmap.Unpack(b, n)
			if v>>n != 0 {
				if e != api.ErrForm || len(l) != 0 {
					t.Fatalf("%v of %d: %v, error %d", b, n, l, e)
				}
				continue
			}
			if o, f := bitmap.Pack(l...); e != api.OK || f != api.OK || !bytes.Equal(o, b) {
				t.Fatalf("%v of %d: %v, error %d, %d", b, n, o, e, f)
			}
		}
	}
}

func TestR4HandedIn(t *testing.T) {
	l := things(9, 0, 8)
	one, _ := bitmap.Pack(l...)
	two, _ := bitmap.Pack(l...)
	bitmap.Count(l...)
	if !slices.Equal(l, things(9, 0, 8)) {
		t.Error("Pack, Count: what was handed in is changed")
	}
	one[0] = 99
	if two[0] != 1 || !l[0] {
		t.Error("Pack: an answer shares memory")
	}
	b := []byte{1, 1}
	first, _ := bitmap.Unpack(b, 9)
	second, _ := bitmap.Unpack(b, 9)
	first[0] = false
	if !second[0] || !bytes.Equal(b, []byte{1, 1}) {
		t.Error("Unpack: an answer shares memory, or what was handed in is changed")
	}
}

func TestExamples(t *testing.T) {
	if b, e := bitmap.Pack(false, true, true); e != api.OK || !bytes.Equal(b, []byte{6}) {
		t.Errorf("1: %v, error %d", b, e)
	}
	if l, e := bitmap.Unpack([]byte{8}, 3); e != api.ErrForm || len(l) != 0 {
		t.Errorf("2: %v, error %d", l, e)
	}
}
