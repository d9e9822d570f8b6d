package crc_test

import (
	"bytes"
	"math"
	"slices"
	"testing"

	"lacuna/crc"
	"lacuna/sample"
)

// sums are bytes whose sums are known.
var sums = []struct {
	b   []byte
	sum crc.Sum
}{
	{nil, 0},
	{[]byte{0}, 0x527D5351},
	{[]byte{255}, 0xFF000000},
	{[]byte("a"), 0xC1D04330},
	{[]byte("123456789"), 0xE3069283},
	{make([]byte, 32), 0x8A9136AA},
	{bytes.Repeat([]byte{255}, 32), 0x62A8AB43},
	{rising(32), 0x46DD794E},
	{falling(32), 0x113FDB5C},
}

// rising are n bytes from 0 on.
func rising(n int) []byte {
	b := make([]byte, n)
	for k := range b {
		b[k] = byte(k)
	}
	return b
}

// falling are n bytes down to 0.
func falling(n int) []byte {
	b := rising(n)
	slices.Reverse(b)
	return b
}

// byWords is the sum as the chapter says it, bit by bit.
func byWords(register uint32, b []byte) crc.Sum {
	for _, x := range b {
		for k := range 8 {
			unlike := uint32(x)>>k&1 != register&1
			register >>= 1
			if unlike {
				register ^= 0x82F63B78
			}
		}
	}
	return crc.Sum(^register)
}

func TestP31Of(t *testing.T) {
	for _, x := range sums {
		if s := crc.Of(x.b); s != x.sum {
			t.Errorf("%v: %08X, not %08X", x.b, s, x.sum)
		}
	}
}

func TestP31OfByItsWords(t *testing.T) {
	for n := range 1 << 16 {
		if b := []byte{byte(n), byte(n >> 8)}; crc.Of(b) != byWords(math.MaxUint32, b) || crc.Of(b[:1]) != byWords(math.MaxUint32, b[:1]) {
			t.Fatalf("%v: %08X, %08X", b, crc.Of(b), crc.Of(b[:1]))
		}
	}
	for _, n := range []int{3, 4, 5, 7, 8, 9, 15, 16, 17, 63, 64, 65, 255, 256, 257, 4095, 4096, 4097, 4106, 70000} {
		for seed := range uint32(4) {
			if b := sample.Mixed(n, seed); crc.Of(b) != byWords(math.MaxUint32, b) {
				t.Errorf("%d bytes, seed %d: %08X", n, seed, crc.Of(b))
			}
		}
	}
}

func TestP31OfNothing(t *testing.T) {
	for _, parts := range [][][]byte{nil, {}, {nil}, {{}}, {nil, {}, nil}, make([][]byte, 100)} {
		if s := crc.Of(parts...); s != 0 {
			t.Errorf("of %d empty parts: %08X", len(parts), s)
		}
	}
}

func TestP31OfParts(t *testing.T) {
	b := sample.Mixed(40, 1)
	want := byWords(math.MaxUint32, b)
	for i := range len(b) + 1 {
		for j := i; j <= len(b); j++ {
			if s := crc.Of(b[:i], b[i:j], b[j:]); s != want {
				t.Fatalf("parted at %d and %d: %08X", i, j, s)
			}
			if s := crc.Of(nil, b[:i], nil, []byte{}, b[i:j], nil, b[j:], nil); s != want {
				t.Fatalf("parted at %d and %d, with empty parts: %08X", i, j, s)
			}
			if s := crc.Of(b[:i]).And(b[i:j]).And(b[j:]); s != want {
				t.Fatalf("parted at %d and %d, one after the other: %08X", i, j, s)
			}
		}
	}
	var singles [][]byte
	for k := range b {
		singles = append(singles, b[k:k+1])
	}
	if s := crc.Of(singles...); s != want {
		t.Errorf("byte by byte: %08X", s)
	}
	if s := crc.Of(b, b, b[5:30]); s != byWords(math.MaxUint32, sample.Join(b, b, b[5:30])) {
		t.Errorf("parts that share bytes: %08X", s)
	}
	if crc.Of(b[:9], b[9:]) == crc.Of(b[9:], b[:9]) {
		t.Error("parts in another order have the same sum")
	}
}

// bytesOf are the four bytes that have a sum: there are just four of each.
func bytesOf(s crc.Sum) []byte {
	register := ^uint32(s)
	for range 32 {
		// Only a register that was turned has the highest bit: a step to the right leaves 0 there.
		turned := register>>31 == 1
		if turned {
			register ^= 0x82F63B78
		}
		register <<= 1
		if turned {
			register |= 1
		}
	}
	return crc.Sum(^register).Put(nil)
}

func TestP31And(t *testing.T) {
	for _, s := range []crc.Sum{0, 1, 0xE3069283, 0x80000000, 0x7FFFFFFF, 0x82F63B78, 0xFFFFFFFE, 0xFFFFFFFF} {
		b := bytesOf(s)
		if crc.Of(b) != s {
			t.Fatalf("%08X is not the sum of %v: %08X", s, b, crc.Of(b))
		}
		if s.And() != s || s.And(nil) != s || s.And(nil, []byte{}) != s {
			t.Errorf("%08X and nothing: %08X, %08X", s, s.And(), s.And(nil))
		}
		for _, p := range [][]byte{{0}, {255}, []byte("123456789"), make([]byte, 300), sample.Mixed(4097, 3)} {
			want := crc.Of(sample.Join(b, p, p[:1]))
			if got := s.And(p, p[:1]); got != want || got != byWords(^uint32(s), sample.Join(p, p[:1])) {
				t.Errorf("%08X and %d bytes: %08X, not %08X", s, len(p)+1, got, want)
			}
		}
	}
	for _, x := range sums {
		if s := crc.Sum(0).And(x.b); s != x.sum {
			t.Errorf("the sum of nothing, and %v: %08X", x.b, s)
		}
	}
}

func TestP32Put(t *testing.T) {
	for _, x := range []struct {
		s crc.Sum
		b []byte
	}{
		{0, []byte{0, 0, 0, 0}},
		{1, []byte{1, 0, 0, 0}},
		{0x04030201, []byte{1, 2, 3, 4}},
		{0xE3069283, []byte{0x83, 0x92, 0x06, 0xE3}},
		{0xFF000000, []byte{0, 0, 0, 255}},
		{0xFFFFFFFF, []byte{255, 255, 255, 255}},
	} {
		if b := x.s.Put(nil); !bytes.Equal(b, x.b) {
			t.Errorf("%08X: %v", x.s, b)
		}
		if b := x.s.Put([]byte{}); !bytes.Equal(b, x.b) {
			t.Errorf("%08X behind an empty list: %v", x.s, b)
		}
		if b := x.s.Put([]byte{7, 8}); !bytes.Equal(b, sample.Join([]byte{7, 8}, x.b)) {
			t.Errorf("%08X behind 7 8: %v", x.s, b)
		}
	}
}

func TestP32Sign(t *testing.T) {
	for _, x := range sums {
		want := sample.Join(x.b, []byte{byte(x.sum), byte(x.sum >> 8), byte(x.sum >> 16), byte(x.sum >> 24)})
		b := crc.Sign(x.b)
		if !bytes.Equal(b, want) {
			t.Errorf("%v: %v, not %v", x.b, b, want)
		}
		if !crc.Signed(b) {
			t.Errorf("%v: what is signed is not", x.b)
		}
	}
	for n := range 300 {
		b := sample.Mixed(n, uint32(n))
		s := crc.Sign(b)
		if !crc.Signed(s) || !bytes.Equal(s[:n], b) || len(s) != n+4 {
			t.Errorf("%d bytes: what is signed is not", n)
		}
		if again := crc.Sign(s); !crc.Signed(again) || len(again) != n+8 {
			t.Errorf("%d bytes: what is signed twice is not", n)
		}
	}
}

func TestP32SignedOfFewerThanFour(t *testing.T) {
	if crc.Signed(nil) || crc.Signed([]byte{}) {
		t.Error("no byte is signed")
	}
	for n := range 1 << 16 {
		if b := []byte{byte(n), byte(n >> 8)}; crc.Signed(b) || crc.Signed(b[:1]) {
			t.Fatalf("%v is signed, or its first byte", b)
		}
	}
	for _, b := range [][]byte{{0, 0, 0}, {255, 255, 255}, {81, 83, 125}, sample.Mixed(3, 9)} {
		if crc.Signed(b) {
			t.Errorf("%v is signed", b)
		}
	}
}

func TestP32Signed(t *testing.T) {
	for _, x := range []struct {
		name   string
		b      []byte
		signed bool
	}{
		{"no byte, and its sum", []byte{0, 0, 0, 0}, true},
		{"no byte, and another sum", []byte{1, 0, 0, 0}, false},
		{"no byte, and a register that is not turned at last", []byte{255, 255, 255, 255}, false},
		{"0", []byte{0, 0x51, 0x53, 0x7D, 0x52}, true},
		{"0, the highest byte of the sum first", []byte{0, 0x52, 0x7D, 0x53, 0x51}, false},
		{"0 with the sum of 1", sample.Join([]byte{0}, crc.Of([]byte{1}).Put(nil)), false},
		{"nine", []byte("123456789\x83\x92\x06\xE3"), true},
		{"the sum ahead", []byte("\x83\x92\x06\xE3123456789"), false},
		{"without the first byte", []byte("23456789\x83\x92\x06\xE3"), false},
		{"without the last byte", []byte("123456789\x83\x92\x06"), false},
		{"with a byte ahead", []byte("0123456789\x83\x92\x06\xE3"), false},
		{"with a byte behind", []byte("123456789\x83\x92\x06\xE3\x00"), false},
		{"two bytes changed places", []byte("213456789\x83\x92\x06\xE3"), false},
		{"only noughts", make([]byte, 5), false},
		{"more noughts", make([]byte, 100), false},
	} {
		if crc.Signed(x.b) != x.signed {
			t.Errorf("%s: %v", x.name, !x.signed)
		}
	}
}

// turn turns the bits of a pattern from the bit at on, as many as there are, and says whether it turned all.
func turn(b []byte, at int, pattern uint32) bool {
	for k := range 32 {
		if pattern>>k&1 == 0 {
			continue
		}
		if at+k >= 8*len(b) {
			return false
		}
		b[(at+k)/8] ^= 1 << ((at + k) % 8)
	}
	return true
}

// patterns are bits to turn, the first one always: all within 10 bits, and of each greater width some.
func patterns(yield func(uint32) bool) {
	for p := range uint32(1 << 9) {
		if !yield(2*p + 1) {
			return
		}
	}
	seed := uint32(1)
	for width := 11; width <= 32; width++ {
		ends := uint32(1)<<(width-1) | 1
		inner := ends - 2
		if !yield(ends) || !yield(ends|inner) {
			return
		}
		for range 20 {
			seed = seed*1664525 + 1013904223
			if !yield(ends | inner&(seed^seed>>13)) {
				return
			}
		}
	}
	// The register's own turns, the bits in either order.
	_ = yield(0x82F63B78>>3) && yield(0x1EDC6F41)
}

func TestP33Damage(t *testing.T) {
	for _, n := range []int{0, 1, 2, 3, 4, 5, 11} {
		for seed := range uint32(2) {
			whole := crc.Sign(sample.Mixed(n, seed))
			for pattern := range patterns {
				for at := range 8 * len(whole) {
					b := bytes.Clone(whole)
					if turn(b, at, pattern) && crc.Signed(b) {
						t.Fatalf("%d bytes: still signed with the bits %X from %d on", n, pattern, at)
					}
				}
			}
		}
	}
}

func TestP33DamageOfMany(t *testing.T) {
	whole := crc.Sign(sample.Mixed(4106, 5))
	end := 8 * len(whole)
	// From bits at the beginning and amidst; within the last payload bytes, over them and the sum, and in the sum alone.
	for _, at := range []int{0, 1, 7, 8, 13, 20001, end - 80, end - 64, end - 63, end - 49, end - 33, end - 32, end - 17, end - 9, end - 1} {
		for pattern := range patterns {
			if pattern%8 != 1 && pattern < 1<<10 {
				continue
			}
			b := bytes.Clone(whole)
			if turn(b, at, pattern) && crc.Signed(b) {
				t.Fatalf("still signed with the bits %X from %d on", pattern, at)
			}
		}
	}
}

func TestR4HandedIn(t *testing.T) {
	room := []byte{1, 2, 3, 4, 5, 6, 7, 8, 9}
	whole := bytes.Clone(room)
	part := room[:2]
	puts := map[string]func(b []byte) []byte{
		"Put":  func(b []byte) []byte { return crc.Sum(0xA1B2C3D4).Put(b) },
		"Sign": crc.Sign,
	}
	for name, put := range puts {
		first, second := put(part), put(part)
		if !bytes.Equal(room, whole) {
			t.Errorf("%s: it wrote into what was handed in, or behind it: %v", name, room)
		}
		kept := bytes.Clone(second)
		for k := range first {
			first[k] ^= 255
		}
		if !bytes.Equal(second, kept) || !bytes.Equal(room, whole) {
			t.Errorf("%s: an answer shares memory", name)
		}
		third, fourth := put(second), put(second)
		other := bytes.Clone(fourth)
		clear(third)
		if !bytes.Equal(second, kept) || !bytes.Equal(fourth, other) {
			t.Errorf("%s: an answer shares memory with another, behind which it is put", name)
		}
	}
	parts := [][]byte{room[:3], room[3:]}
	crc.Of(parts...)
	crc.Sum(5).And(parts...)
	crc.Signed(room)
	if !bytes.Equal(sample.Join(parts...), whole) || len(parts[0]) != 3 {
		t.Error("Of, And, Signed: what was handed in is changed")
	}
}

func TestR3NilAndEmpty(t *testing.T) {
	if crc.Of(nil) != crc.Of([]byte{}) || crc.Sum(7).And(nil) != crc.Sum(7).And([]byte{}) || crc.Signed(nil) != crc.Signed([]byte{}) {
		t.Error("nil and empty are not one")
	}
	if !bytes.Equal(crc.Sign(nil), crc.Sign([]byte{})) || !bytes.Equal(crc.Sum(7).Put(nil), crc.Sum(7).Put([]byte{})) {
		t.Error("nil and empty are not one: Sign, Put")
	}
}

func TestR6SameAgain(t *testing.T) {
	b := sample.Mixed(100, 8)
	want := crc.Of(b)
	crc.Of(falling(50)).And(b)
	crc.Signed(crc.Sign(b))
	if crc.Of(b) != want || crc.Sum(9).And(b) != crc.Sum(9).And(b) {
		t.Error("the same, and another sum")
	}
}

func TestExample(t *testing.T) {
	if s := crc.Of([]byte("123456789")); s != 0xE3069283 {
		t.Errorf("%08X", s)
	}
}
