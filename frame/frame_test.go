package frame_test

import (
	"bytes"
	"math"
	"slices"
	"testing"

	"lacuna/api"
	"lacuna/crc"
	"lacuna/frame"
	"lacuna/sample"
)

// equal: are they one frame?
func equal(f, g frame.Frame) bool {
	return f.Version == g.Version && f.Kind == g.Kind && bytes.Equal(f.Payload, g.Payload)
}

// nothing: is it the zero value?
func nothing(f frame.Frame) bool { return f.Version == 0 && f.Kind == 0 && len(f.Payload) == 0 }

// made are a frame's bytes; there must be some.
func made(t *testing.T, version, kind uint8, payload []byte) []byte {
	t.Helper()
	b, e := frame.Make(frame.Frame{Version: version, Kind: kind, Payload: payload})
	if e != api.OK {
		t.Fatalf("version %d, kind %d, %d bytes: error %d", version, kind, len(payload), e)
	}
	return b
}

// The edges of what a frame may have, with some beyond.
var (
	versions = []uint8{0, 1, 2, 3, 127, 128, 255}
	kinds    = []uint8{0, 1, 2, 3, 4, 5, 6, 7, 8, 9, 128, 255}
	sizes    = []int{0, 1, 2, 127, 128, 255, 256, 257, 4095, 4096, 4097, 5000, 65535, 65536, 70000}
)

// wrong is what is wrong with a frame, as P4.1 says it.
func wrong(version, kind uint8, size int) api.Errno {
	if version != 1 && version != 2 {
		return api.ErrVersion
	}
	if !slices.Contains([]uint8{1, 2, 3, 4, 5, 6, 7, 8}, kind) {
		return api.ErrKind
	}
	if size > 4096 {
		return api.ErrLong
	}
	return api.OK
}

func TestP41Kinds(t *testing.T) {
	l := []int{frame.Begin, frame.Relation, frame.Piece, frame.Insert, frame.Update, frame.Delete, frame.Truncate, frame.Commit}
	if !slices.Equal(l, []int{1, 2, 3, 4, 5, 6, 7, 8}) {
		t.Error(l)
	}
}

func TestP41Name(t *testing.T) {
	names := []string{"", "begin", "relation", "piece", "insert", "update", "delete", "truncate", "commit"}
	for kind := range 256 {
		want := ""
		if kind < len(names) {
			want = names[kind]
		}
		if s := frame.Name(uint8(kind)); s != want {
			t.Errorf("%d: %q, not %q", kind, s, want)
		}
	}
}

func TestP41Right(t *testing.T) {
	for _, x := range []struct {
		name          string
		version, kind uint8
		size          int
		e             api.Errno
	}{
		{"the least", 1, 1, 0, api.OK},
		{"the greatest", 2, 8, 4096, api.OK},
		{"no version", 0, 1, 0, api.ErrVersion},
		{"the version behind the last one", 3, 1, 0, api.ErrVersion},
		{"no kind", 1, 0, 0, api.ErrKind},
		{"the kind behind the last one", 1, 9, 0, api.ErrKind},
		{"the greatest kind there could be", 2, 255, 0, api.ErrKind},
		{"a byte too many", 2, 8, 4097, api.ErrLong},
		{"version ahead of kind", 3, 9, 0, api.ErrVersion},
		{"version ahead of length", 0, 1, 4097, api.ErrVersion},
		{"kind ahead of length", 1, 0, 4097, api.ErrKind},
		{"all of it", 0, 0, 4097, api.ErrVersion},
	} {
		f := frame.Frame{Version: x.version, Kind: x.kind, Payload: sample.Mixed(x.size, 1)}
		if e := frame.Right(f); e != x.e {
			t.Errorf("%s: %d, not %d", x.name, e, x.e)
		}
	}
	if e := frame.Right(frame.Frame{}); e != api.ErrVersion {
		t.Errorf("nothing: %d", e)
	}
}

// bytesOf are a frame's bytes, as the chapter says them.
func bytesOf(version, kind uint8, payload []byte) []byte {
	b := []byte("Lg")
	b = append(b, version, kind, byte(len(payload)%256), byte(len(payload)/256))
	b = append(b, payload...)
	return crc.Sign(b)
}

func TestP41RightAndMake(t *testing.T) {
	for _, version := range versions {
		for _, kind := range kinds {
			for _, size := range sizes {
				f := frame.Frame{Version: version, Kind: kind, Payload: sample.Mixed(size, uint32(kind))}
				want := wrong(version, kind, size)
				if e := frame.Right(f); e != want {
					t.Errorf("Right: version %d, kind %d, %d bytes: %d, not %d", version, kind, size, e, want)
				}
				b, e := frame.Make(f)
				if e != want {
					t.Errorf("Make: version %d, kind %d, %d bytes: %d, not %d", version, kind, size, e, want)
				}
				if e != api.OK && len(b) != 0 {
					t.Errorf("Make: version %d, kind %d, %d bytes: %d bytes beside an error", version, kind, size, len(b))
				}
				if e == api.OK && !bytes.Equal(b, bytesOf(version, kind, f.Payload)) {
					t.Errorf("Make: version %d, kind %d, %d bytes: other bytes", version, kind, size)
				}
			}
		}
	}
}

// whole are frames whose bytes are known, sum and all.
var whole = []struct {
	f frame.Frame
	b []byte
}{
	{frame.Frame{Version: 1, Kind: 8, Payload: []byte{7}}, []byte{76, 103, 1, 8, 1, 0, 7, 129, 30, 35, 152}},
	{frame.Frame{Version: 1, Kind: 8}, []byte{76, 103, 1, 8, 0, 0, 201, 77, 70, 234}},
	{frame.Frame{Version: 2, Kind: 1}, []byte{76, 103, 2, 1, 0, 0, 75, 104, 116, 21}},
	{
		frame.Frame{Version: 2, Kind: 4, Payload: bytes.Repeat([]byte{9}, 256)},
		sample.Join([]byte{76, 103, 2, 4, 0, 1}, bytes.Repeat([]byte{9}, 256), []byte{252, 150, 11, 190}),
	},
}

func TestP41Make(t *testing.T) {
	for _, x := range whole {
		if b, e := frame.Make(x.f); e != api.OK || !bytes.Equal(b, x.b) {
			t.Errorf("%v: %v, error %d", x.b, b, e)
		}
	}
	for _, size := range []int{0, 1, 255, 256, 4095, 4096} {
		b := made(t, 1, frame.Piece, sample.Mixed(size, 2))
		if len(b) != size+10 || !crc.Signed(b) || int(b[4])+256*int(b[5]) != size {
			t.Errorf("%d bytes: %d in all, signed %v, length %d %d", size, len(b), crc.Signed(b), b[4], b[5])
		}
	}
}

func TestP42Parse(t *testing.T) {
	for _, x := range whole {
		f, n, e := frame.Parse(x.b)
		if e != api.OK || n != len(x.b) || !equal(f, x.f) {
			t.Errorf("%v: %v, %d bytes, error %d", x.b, f, n, e)
		}
	}
}

// good is the frame of the version 1, kind 8 and payload 7.
const good = "Lg\x01\x08\x01\x00\x07\x81\x1e\x23\x98"

func TestP42Wrong(t *testing.T) {
	for _, x := range []struct {
		name string
		b    string
		e    api.Errno
	}{
		{"no byte", "", api.ErrShort},
		{"the first byte alone", "L", api.ErrShort},
		{"both of the first two", "Lg", api.ErrShort},
		{"up to the version", "Lg\x02", api.ErrShort},
		{"up to the kind", "Lg\x02\x08", api.ErrShort},
		{"half a length", "Lg\x02\x08\x01", api.ErrShort},
		{"half a length, that would be too great if the other half were", "Lg\x02\x08\xff", api.ErrShort},
		{"the greatest length", "Lg\x02\x08\x00\x10", api.ErrShort},
		{"a head", "Lg\x01\x08\x01\x00", api.ErrShort},
		{"no sum", "Lg\x01\x08\x01\x00\x07", api.ErrShort},
		{"half a sum", "Lg\x01\x08\x01\x00\x07\x81\x1e", api.ErrShort},
		{"all but the last byte", good[:len(good)-1], api.ErrShort},
		{"half a sum, a wrong one", "Lg\x01\x08\x01\x00\x07\x00\x00\x00", api.ErrShort},

		{"another first byte", "M", api.ErrForm},
		{"a small letter first", "lg\x01\x08\x01\x00\x07\x81\x1e\x23\x98", api.ErrForm},
		{"another second byte", "LG", api.ErrForm},
		{"the two changed places", "gL\x01\x08\x01\x00\x07\x81\x1e\x23\x98", api.ErrForm},
		{"a nought", "\x00", api.ErrForm},
		{"the first byte missing", good[1:], api.ErrForm},
		{"a byte ahead", " " + good, api.ErrForm},

		{"no version", "Lg\x00", api.ErrVersion},
		{"the version behind the last one", "Lg\x03", api.ErrVersion},
		{"the greatest version there could be", "Lg\xff\x08\x01\x00\x07\x81\x1e\x23\x98", api.ErrVersion},
		{"a version as a digit", "Lg1\x08\x01\x00\x07\x81\x1e\x23\x98", api.ErrVersion},

		{"no kind", "Lg\x01\x00", api.ErrKind},
		{"the kind behind the last one", "Lg\x02\x09", api.ErrKind},
		{"the greatest kind there could be", "Lg\x01\xff\x01\x00\x07\x81\x1e\x23\x98", api.ErrKind},

		{"4097", "Lg\x01\x08\x01\x10", api.ErrLong},
		{"4352", "Lg\x01\x08\x00\x11", api.ErrLong},
		{"65535", "Lg\x01\x08\xff\xff\x07\x81\x1e\x23\x98", api.ErrLong},
		{"the highest bit of the length", "Lg\x01\x08\x01\x80", api.ErrLong},

		{"another payload", "Lg\x01\x08\x01\x00\x06\x81\x1e\x23\x98", api.ErrSum},
		{"another sum", "Lg\x01\x08\x01\x00\x07\x81\x1e\x23\x99", api.ErrSum},
		{"the sum's highest byte first", "Lg\x01\x08\x01\x00\x07\x98\x23\x1e\x81", api.ErrSum},
		{"another version, that is one", "Lg\x02\x08\x01\x00\x07\x81\x1e\x23\x98", api.ErrSum},
		{"another kind, that is one", "Lg\x01\x07\x01\x00\x07\x81\x1e\x23\x98", api.ErrSum},
		{"a length that is less", "Lg\x01\x08\x00\x00\x07\x81\x1e\x23\x98", api.ErrSum},
		{"a length that is greater", "Lg\x01\x08\x02\x00\x07\x81\x1e\x23\x98", api.ErrShort},
		{"a length that is greater, with a byte more", "Lg\x01\x08\x02\x00\x07\x81\x1e\x23\x98\x00", api.ErrSum},
		{"a sum of nothing", "Lg\x01\x08\x00\x00\x00\x00\x00\x00", api.ErrSum},

		{"form ahead of version", "Lx\x00", api.ErrForm},
		{"form ahead of all", "xx\x00\x00\xff\xff", api.ErrForm},
		{"the first byte right, the second not, all else wrong", "Lx\x00\x00\xff\xff", api.ErrForm},
		{"the first byte not, all else right", "xg\x01\x08\x01\x00\x07\x81\x1e\x23\x98", api.ErrForm},
		{"version ahead of kind", "Lg\x03\x09", api.ErrVersion},
		{"version ahead of kind and length", "Lg\x00\x00\xff\xff", api.ErrVersion},
		{"version ahead of length", "Lg\x00\x01\xff\xff", api.ErrVersion},
		{"kind ahead of length", "Lg\x01\x00\xff\xff", api.ErrKind},
		{"kind ahead of half a length", "Lg\x01\x09\xff", api.ErrKind},
		{"length ahead of short and sum", "Lg\x01\x08\x01\x10\x07", api.ErrLong},
		{"length ahead of sum", "Lg\x01\x08\x01\x10" + string(make([]byte, 4101)), api.ErrLong},
		{"short ahead of sum", "Lg\x01\x08\x09\x00\x07\x81\x1e\x23\x98", api.ErrShort},
	} {
		f, n, e := frame.Parse([]byte(x.b))
		if e != x.e || n != 0 || !nothing(f) {
			t.Errorf("%s: %v, %d bytes, error %d, not %d", x.name, f, n, e, x.e)
		}
	}
}

// parseByWords is Parse as the promise says it, byte by byte that is there.
func parseByWords(b []byte) (frame.Frame, int, api.Errno) {
	there := func(k int) bool { return len(b) > k }
	length := 0
	if there(5) {
		length = int(b[4]) + 256*int(b[5])
	}
	switch {
	case there(0) && b[0] != 'L', there(1) && b[1] != 'g':
		return frame.Frame{}, 0, api.ErrForm
	case there(2) && b[2] != 1 && b[2] != 2:
		return frame.Frame{}, 0, api.ErrVersion
	case there(3) && (b[3] == 0 || b[3] > 8):
		return frame.Frame{}, 0, api.ErrKind
	case there(5) && length > 4096:
		return frame.Frame{}, 0, api.ErrLong
	case !there(5), !there(length + 9):
		return frame.Frame{}, 0, api.ErrShort
	case !crc.Signed(b[:length+10]):
		return frame.Frame{}, 0, api.ErrSum
	}
	return frame.Frame{Version: b[2], Kind: b[3], Payload: b[6 : length+6]}, length + 10, api.OK
}

// same holds Parse against the promise's words.
func same(t *testing.T, b []byte) {
	t.Helper()
	wantF, wantN, wantE := parseByWords(b)
	f, n, e := frame.Parse(b)
	if e != wantE || n != wantN || !equal(f, wantF) {
		t.Fatalf("%v of %d bytes: %v, %d, error %d, not %v, %d, %d", b[:min(12, len(b))], len(b), f, n, e, wantF, wantN, wantE)
	}
}

func TestP42ParseByItsWords(t *testing.T) {
	for _, x := range whole {
		// Each byte of the head in turn is each byte, of each beginning.
		for k := range 6 {
			for v := range 256 {
				b := bytes.Clone(x.b)
				b[k] = byte(v)
				signed := crc.Sign(b[:len(b)-4])
				for n := range len(b) + 1 {
					same(t, b[:n])
					same(t, signed[:n])
				}
			}
		}
	}
	// Several bytes of the head are edges at once, cut anywhere, with enough behind or too little.
	for _, front := range []string{"Lg", "Lx", "xg", "xx"} {
		for _, version := range versions {
			for _, kind := range kinds {
				for _, length := range []int{0, 1, 255, 256, 4096, 4097, 65535} {
					head := sample.Join([]byte(front), []byte{version, kind, byte(length), byte(length >> 8)})
					for n := range len(head) + 1 {
						same(t, head[:n])
					}
					same(t, sample.Join(head, sample.Mixed(20, 3)))
					same(t, crc.Sign(sample.Join(head, sample.Mixed(min(length, 5000), 4))))
				}
			}
		}
	}
}

func TestP42BytesBehind(t *testing.T) {
	for _, x := range whole {
		for _, behind := range [][]byte{{0}, {255}, []byte("L"), []byte("Lg"), []byte("x"), sample.Mixed(5000, 6), x.b, []byte(good)} {
			f, n, e := frame.Parse(sample.Join(x.b, behind))
			if e != api.OK || n != len(x.b) || !equal(f, x.f) {
				t.Errorf("%v with %d bytes behind: %v, %d, error %d", x.f, len(behind), f, n, e)
			}
		}
	}
}

func TestP43MadeAndParsed(t *testing.T) {
	for version := uint8(1); version <= 2; version++ {
		for kind := uint8(frame.Begin); kind <= frame.Commit; kind++ {
			for _, size := range []int{0, 1, 2, 9, 10, 127, 128, 255, 256, 257, 1000, 4095, 4096} {
				want := frame.Frame{Version: version, Kind: kind, Payload: sample.Mixed(size, uint32(kind))}
				b := made(t, version, kind, want.Payload)
				f, n, e := frame.Parse(b)
				if e != api.OK || n != len(b) || !equal(f, want) || frame.Right(f) != api.OK {
					t.Errorf("version %d, kind %d, %d bytes: %d, error %d", version, kind, size, n, e)
				}
				if again, e := frame.Make(f); e != api.OK || !bytes.Equal(again, b) {
					t.Errorf("version %d, kind %d, %d bytes: what is parsed is made of other bytes", version, kind, size)
				}
			}
		}
	}
	for size := range 4097 {
		b := made(t, 1, frame.Insert, make([]byte, size))
		if f, n, e := frame.Parse(b); e != api.OK || n != size+10 || len(f.Payload) != size {
			t.Fatalf("%d bytes: %d, error %d", size, n, e)
		}
	}
}

func TestP43Beginnings(t *testing.T) {
	for _, size := range []int{0, 1, 255, 256, 4096} {
		b := made(t, 2, frame.Update, sample.Mixed(size, 7))
		for k := range b {
			if f, n, e := frame.Parse(b[:k]); e != api.ErrShort || n != 0 || !nothing(f) {
				t.Fatalf("the first %d of %d bytes: %d, error %d", k, len(b), n, e)
			}
		}
	}
}

// turn turns the bits of a pattern from the bit at on, and says whether there are so many.
func turn(b []byte, at int, pattern uint32) bool {
	for k := range 32 {
		if pattern>>k&1 == 0 {
			continue
		}
		if at+k >= 8*len(b) {
			return false
		}
		b[(at+k)/8] ^= 1 << ((at + k) % 8)
	}
	return true
}

func TestP43Damage(t *testing.T) {
	patterns := []uint32{1, 3, 5, 0x11, 0xff, 0x101, 0x1ff, 0x10001, 0xdeadbeef, 0x80000001, 0xc0000003, 0x7fffffff, math.MaxUint32, 0x82f63b78 >> 3}
	for _, size := range []int{0, 1, 3, 30, 4096} {
		b := made(t, 1, frame.Delete, sample.Mixed(size, 8))
		for at := 6 * 8; at < 8*len(b); at++ {
			// Of a great frame the beginning, the end, and some amidst.
			if at > 100 && at < 8*len(b)-100 && at%997 != 0 {
				continue
			}
			for _, pattern := range patterns {
				damaged := bytes.Clone(b)
				if !turn(damaged, at, pattern) {
					continue
				}
				for _, behind := range []string{"", "Lg", good} {
					if f, n, e := frame.Parse(sample.Join(damaged, []byte(behind))); e != api.ErrSum || n != 0 || !nothing(f) {
						t.Fatalf("%d bytes, the bits %x from %d on: %d, error %d", size, pattern, at, n, e)
					}
				}
			}
		}
	}
}

func TestR1AnyBytes(t *testing.T) {
	for n := range 1 << 16 {
		same(t, []byte{byte(n), byte(n >> 8)})
		same(t, []byte{'L', 'g', byte(n), byte(n >> 8)})
		same(t, []byte{'L', 'g', 1, 3, byte(n), byte(n >> 8)})
	}
	for seed := range uint32(2000) {
		same(t, sample.Mixed(int(seed%50), seed))
		same(t, sample.Join([]byte("Lg\x02\x03\x05\x00"), sample.Mixed(int(seed%12), seed)))
	}
}

func TestR3NilAndEmpty(t *testing.T) {
	null := frame.Frame{Version: 1, Kind: 2}
	empty := frame.Frame{Version: 1, Kind: 2, Payload: []byte{}}
	one, e := frame.Make(null)
	two, f := frame.Make(empty)
	if frame.Right(null) != api.OK || frame.Right(empty) != api.OK || e != api.OK || f != api.OK || !bytes.Equal(one, two) {
		t.Errorf("a payload that is nil, and an empty one: %v, %v, error %d, %d", one, two, e, f)
	}
	same(t, nil)
	same(t, []byte{})
}

func TestR4Make(t *testing.T) {
	room := []byte{1, 2, 3, 4, 5, 6, 7, 8, 9}
	kept := bytes.Clone(room)
	first := made(t, 1, 4, room[:3])
	second := made(t, 1, 4, room[:3])
	if !bytes.Equal(room, kept) {
		t.Errorf("the payload is changed, or what is behind it: %v", room)
	}
	clear(first)
	if !bytes.Equal(room, kept) || !bytes.Equal(second, bytesOf(1, 4, room[:3])) {
		t.Error("an answer shares memory")
	}
}

func TestR4Parse(t *testing.T) {
	b := []byte(good + good)
	f, n, e := frame.Parse(b)
	g, _, _ := frame.Parse(b)
	if e != api.OK || n != len(good) || string(b) != good+good {
		t.Errorf("%d, error %d, or what was handed in is changed", n, e)
	}
	f.Payload[0] = 99
	_ = append(f.Payload, 88, 88, 88)
	if string(b) != good+good || g.Payload[0] != 7 {
		t.Error("an answer shares memory with what was handed in, or with another answer")
	}
	clear(b)
	if g.Payload[0] != 7 {
		t.Error("an answer shares memory with what was handed in")
	}
}

func TestExample(t *testing.T) {
	b, e := frame.Make(frame.Frame{Version: 1, Kind: 8, Payload: []byte{7}})
	if want := crc.Sign([]byte{76, 103, 1, 8, 1, 0, 7}); e != api.OK || !bytes.Equal(b, want) {
		t.Errorf("%v, error %d", b, e)
	}
}
