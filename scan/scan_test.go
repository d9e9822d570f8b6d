package scan_test

import (
	"bytes"
	"runtime"
	"testing"

	"lacuna/api"
	"lacuna/crc"
	"lacuna/frame"
	"lacuna/sample"
	"lacuna/scan"
)

// made are the bytes of a frame with n bytes of payload.
func made(t *testing.T, version, kind uint8, n int) []byte {
	t.Helper()
	b, e := frame.Make(frame.Frame{Version: version, Kind: kind, Payload: sample.Mixed(n, uint32(n))})
	if e != api.OK {
		t.Fatalf("version %d, kind %d, %d bytes: error %d", version, kind, n, e)
	}
	return b
}

// equal: are they one found frame?
func equal(x, y scan.Found) bool {
	return x.At == y.At && x.Size == y.Size && x.Version == y.Version && x.Kind == y.Kind && bytes.Equal(x.Payload, y.Payload)
}

// state is what is so after some bytes came, however they were parted.
type state struct {
	found []scan.Found
	at    uint64
	kept  int
	err   api.Errno
}

// byWords is what is so after b came, by the words of the promises, if s was so after a beginning of it.
func byWords(b []byte, s state) state {
	if s.err != api.OK {
		return s
	}
	for {
		left := b[s.at:]
		f, n, e := frame.Parse(left)
		switch e {
		case api.OK:
			s.found = append(s.found, scan.Found{Frame: f, At: s.at, Size: n})
			s.at += uint64(n)
		case api.ErrShort:
			s.kept = len(left)
			return s
		default:
			s.kept, s.err = 0, e
			return s
		}
	}
}

// fed feeds a new scanner part by part, and holds it against the words after each.
func fed(t *testing.T, parts ...[]byte) state {
	t.Helper()
	s := scan.New()
	var came []byte
	told := 0
	var want state
	for k, part := range parts {
		came = append(came, part...)
		want = byWords(came, want)
		found, e := s.Feed(part)
		if e != want.err || len(found) != len(want.found)-told {
			t.Fatalf("part %d of %d bytes: %d frames, error %d, not %d, %d", k, len(part), len(found), e, len(want.found)-told, want.err)
		}
		for n, f := range found {
			if !equal(f, want.found[told+n]) {
				t.Fatalf("part %d: frame %d is at %d, of %d bytes", k, told+n, f.At, f.Size)
			}
		}
		told = len(want.found)
		if s.At() != want.at || s.Kept() != want.kept || s.Err() != want.err {
			t.Fatalf("part %d: at %d, %d kept, error %d, not %d, %d, %d", k, s.At(), s.Kept(), s.Err(), want.at, want.kept, want.err)
		}
		if s.Kept() > 4105 {
			t.Fatalf("part %d: %d bytes are kept", k, s.Kept())
		}
	}
	return want
}

// singles are parts of one byte.
func singles(b []byte) [][]byte {
	var l [][]byte
	for k := range b {
		l = append(l, b[k:k+1])
	}
	return l
}

func TestP51New(t *testing.T) {
	s := scan.New()
	if s.At() != 0 || s.Kept() != 0 || s.Err() != api.OK {
		t.Errorf("no part: at %d, %d kept, error %d", s.At(), s.Kept(), s.Err())
	}
	for range 3 {
		for _, empty := range [][]byte{nil, {}} {
			if l, e := s.Feed(empty); len(l) != 0 || e != api.OK || s.At() != 0 || s.Kept() != 0 || s.Err() != api.OK {
				t.Errorf("an empty part: %v, error %d, at %d, %d kept, error %d", l, e, s.At(), s.Kept(), s.Err())
			}
		}
	}
	if l, e := s.Feed(made(t, 1, 1, 0)); len(l) != 1 || e != api.OK || l[0].At != 0 || l[0].Size != 10 {
		t.Errorf("a frame behind empty parts: %v, error %d", l, e)
	}
}

func TestP51Feed(t *testing.T) {
	s := scan.New()
	b := sample.Join(made(t, 1, frame.Begin, 0), made(t, 2, frame.Insert, 300), made(t, 1, frame.Commit, 1), made(t, 1, frame.Begin, 5)[:9])
	l, e := s.Feed(b)
	if e != api.OK || len(l) != 3 || s.At() != 331 || s.Kept() != 9 || s.Err() != api.OK {
		t.Fatalf("three frames and a beginning: %d frames, error %d, at %d, %d kept", len(l), e, s.At(), s.Kept())
	}
	for k, want := range []scan.Found{
		{Frame: frame.Frame{Version: 1, Kind: frame.Begin}, At: 0, Size: 10},
		{Frame: frame.Frame{Version: 2, Kind: frame.Insert, Payload: sample.Mixed(300, 300)}, At: 10, Size: 310},
		{Frame: frame.Frame{Version: 1, Kind: frame.Commit, Payload: sample.Mixed(1, 1)}, At: 320, Size: 11},
	} {
		if !equal(l[k], want) {
			t.Errorf("frame %d: %v", k, l[k])
		}
	}
	l, e = s.Feed(made(t, 1, frame.Begin, 5)[9:])
	if e != api.OK || len(l) != 1 || l[0].At != 331 || l[0].Size != 15 || !bytes.Equal(l[0].Payload, sample.Mixed(5, 5)) {
		t.Errorf("the rest of the fourth: %v, error %d", l, e)
	}
	if s.At() != 346 || s.Kept() != 0 {
		t.Errorf("a part that ends just with a frame: at %d, %d kept", s.At(), s.Kept())
	}
	if l, e := s.Feed(nil); len(l) != 0 || e != api.OK || s.At() != 346 || s.Kept() != 0 {
		t.Errorf("an empty part behind it: %v, error %d, at %d, %d kept", l, e, s.At(), s.Kept())
	}
	l, e = s.Feed(made(t, 2, frame.Commit, 0))
	if e != api.OK || len(l) != 1 || l[0].At != 346 {
		t.Errorf("a frame behind that: %v, error %d", l, e)
	}
}

func TestP51Parts(t *testing.T) {
	b := sample.Join(made(t, 1, 1, 0), made(t, 1, 4, 20), made(t, 2, 5, 1), made(t, 1, 8, 0))
	for _, end := range []int{0, 1, 9, 10, 11, 39, 40, 41, 50, 51, 52, 60, 61} {
		fed(t, singles(b[:end])...)
	}
	// Empty parts everywhere between.
	var l [][]byte
	for _, one := range singles(b) {
		l = append(l, nil, one, []byte{})
	}
	if s := fed(t, l...); len(s.found) != 4 || s.at != 61 {
		t.Errorf("%d frames, at %d", len(s.found), s.at)
	}
	for n := 1; n <= len(b); n++ {
		fed(t, sample.Parts(b, n)...)
	}
	for n := range len(b) + 1 {
		fed(t, b[:n], b[n:])
		fed(t, b[:n])
	}
}

// wrongs is each thing that can be wrong with a frame; it is there as soon as the last of these bytes is.
var wrongs = []struct {
	name string
	b    string
	e    api.Errno
}{
	{"another first byte", "M", api.ErrForm},
	{"a nought", "\x00", api.ErrForm},
	{"another second byte", "LG", api.ErrForm},
	{"no version", "Lg\x00", api.ErrVersion},
	{"the version behind the last one", "Lg\x03", api.ErrVersion},
	{"no kind", "Lg\x01\x00", api.ErrKind},
	{"the kind behind the last one", "Lg\x02\x09", api.ErrKind},
	{"a length of 4097", "Lg\x01\x08\x01\x10", api.ErrLong},
	{"a length of 65535", "Lg\x01\x08\xff\xff", api.ErrLong},
	{"another payload", "Lg\x01\x08\x01\x00\x06\x81\x1e\x23\x98", api.ErrSum},
	{"another sum", "Lg\x01\x08\x01\x00\x07\x81\x1e\x23\x99", api.ErrSum},
	{"no payload, and a sum of nothing", "Lg\x01\x08\x00\x00\x00\x00\x00\x00", api.ErrSum},
	{"the greatest payload, and another sum", "Lg\x01\x03\x00\x10" + string(make([]byte, 4100)), api.ErrSum},
}

func TestP51Wrong(t *testing.T) {
	right := [][]byte{made(t, 1, 1, 0), made(t, 2, 4, 100), made(t, 1, 8, 1)}
	for _, x := range wrongs {
		for ahead := range len(right) + 1 {
			front := sample.Join(right[:ahead]...)
			wrong := []byte(x.b)
			behind := sample.Join(right[ahead:]...)

			s := scan.New()
			l, e := s.Feed(sample.Join(front, wrong, behind))
			if e != x.e || len(l) != ahead {
				t.Errorf("%s, behind %d: %d frames, error %d, not %d", x.name, ahead, len(l), e, x.e)
			}
			if s.At() != uint64(len(front)) || s.Kept() != 0 || s.Err() != x.e {
				t.Errorf("%s, behind %d: at %d, %d kept, error %d", x.name, ahead, s.At(), s.Kept(), s.Err())
			}

			// The last byte, and no other one, is what tells it.
			s = scan.New()
			last := len(wrong) - 1
			l, e = s.Feed(sample.Join(front, wrong[:last]))
			if e != api.OK || len(l) != ahead || s.Kept() != last || s.Err() != api.OK {
				t.Errorf("%s, without its last byte: %d frames, error %d, %d kept", x.name, len(l), e, s.Kept())
			}
			l, e = s.Feed(wrong[last:])
			if e != x.e || len(l) != 0 || s.Kept() != 0 || s.At() != uint64(len(front)) {
				t.Errorf("%s, its last byte: %d frames, error %d, %d kept, at %d", x.name, len(l), e, s.Kept(), s.At())
			}

			fed(t, singles(sample.Join(front, wrong, behind))...)
			fed(t, sample.Parts(sample.Join(front, wrong, behind), 7)...)
			fed(t, sample.Join(front, wrong), behind)
		}
	}
}

func TestP51SeveralWrong(t *testing.T) {
	for _, x := range []struct {
		name, b string
		e       api.Errno
	}{
		{"form ahead of all", "Lx\x00\x00\xff\xff", api.ErrForm},
		{"version ahead of kind and length", "Lg\x03\x09\xff\xff", api.ErrVersion},
		{"kind ahead of length", "Lg\x01\x09\xff\xff", api.ErrKind},
		{"length ahead of sum", "Lg\x01\x01\x01\x10" + string(make([]byte, 4101)), api.ErrLong},
		{"the first wrong frame ahead of the second", "Lg\x01\x08\x00\x00\x00\x00\x00\x00xx", api.ErrSum},
	} {
		for n := range len(x.b) {
			if s := fed(t, []byte(x.b[:n]), []byte(x.b[n:])); s.err != x.e || s.at != 0 || len(s.found) != 0 {
				t.Fatalf("%s, in two parts at %d: %d frames, error %d", x.name, n, len(s.found), s.err)
			}
		}
	}
}

func TestP51Stopped(t *testing.T) {
	one := made(t, 1, 1, 3)
	for _, x := range wrongs {
		s := scan.New()
		l, e := s.Feed(sample.Join(one, []byte(x.b)))
		if len(l) != 1 || e != x.e {
			t.Fatalf("%s: %d frames, error %d", x.name, len(l), e)
		}
		for _, part := range [][]byte{nil, {}, one, {'L'}, []byte("Lg"), []byte(x.b), []byte("xx"), sample.Join(one, one), sample.Mixed(5000, 1)} {
			l, e := s.Feed(part)
			if len(l) != 0 || e != x.e {
				t.Errorf("%s, fed on: %d frames, error %d", x.name, len(l), e)
			}
			if s.At() != 13 || s.Kept() != 0 || s.Err() != x.e {
				t.Errorf("%s, fed on: at %d, %d kept, error %d", x.name, s.At(), s.Kept(), s.Err())
			}
		}
	}
}

func TestP52Lacking(t *testing.T) {
	b := made(t, 2, frame.Piece, 4096)
	s := scan.New()
	l, e := s.Feed(b[:4105])
	if len(l) != 0 || e != api.OK || s.At() != 0 || s.Kept() != 4105 || s.Err() != api.OK {
		t.Fatalf("a byte is lacking: %d frames, error %d, at %d, %d kept", len(l), e, s.At(), s.Kept())
	}
	if l, e := s.Feed(nil); len(l) != 0 || e != api.OK || s.Kept() != 4105 {
		t.Fatalf("a byte is lacking still: %d frames, error %d, %d kept", len(l), e, s.Kept())
	}
	l, e = s.Feed(sample.Join(b[4105:], b[:4105]))
	if len(l) != 1 || e != api.OK || l[0].At != 0 || l[0].Size != 4106 || !bytes.Equal(l[0].Payload, sample.Mixed(4096, 4096)) {
		t.Fatalf("the last byte, and another one that lacks one: %d frames, error %d", len(l), e)
	}
	if s.At() != 4106 || s.Kept() != 4105 {
		t.Fatalf("the second lacks a byte: at %d, %d kept", s.At(), s.Kept())
	}
	l, e = s.Feed(b[4105:])
	if len(l) != 1 || e != api.OK || l[0].At != 4106 || s.At() != 8212 || s.Kept() != 0 {
		t.Errorf("the last byte of the second: %d frames, error %d, at %d, %d kept", len(l), e, s.At(), s.Kept())
	}
	damaged := bytes.Clone(b)
	damaged[4105] ^= 1
	s = scan.New()
	s.Feed(damaged[:4105])
	if l, e := s.Feed(damaged[4105:]); len(l) != 0 || e != api.ErrSum || s.At() != 0 || s.Kept() != 0 {
		t.Errorf("a last byte that is wrong: %d frames, error %d, at %d, %d kept", len(l), e, s.At(), s.Kept())
	}
}

// logs are bytes with frames of many lengths, right ones and wrong ones.
func logs(t *testing.T) [][]byte {
	t.Helper()
	var all []byte
	for k, n := range []int{0, 1, 4096, 0, 255, 256, 4095, 4096, 4096, 17, 0, 0, 1000, 1, 0} {
		all = append(all, made(t, uint8(1+k%2), uint8(1+k%8), n)...)
	}
	damaged := bytes.Clone(all)
	damaged[len(all)/2] ^= 16
	return [][]byte{
		all,
		all[:len(all)-1],
		damaged,
		sample.Join(all, []byte("Lg\x01\x01\x01\x10"), all),
		sample.Join(all, []byte("L"), all),
		sample.Join(all, all),
	}
}

func TestP53Parts(t *testing.T) {
	for k, b := range logs(t) {
		want := byWords(b, state{})
		for _, n := range []int{1, 2, 3, 9, 10, 11, 100, 4095, 4096, 4105, 4106, 4107, 8192, len(b)} {
			if s := fed(t, sample.Parts(b, n)...); len(s.found) != len(want.found) || s.err != want.err || s.at != want.at {
				t.Errorf("log %d in parts of %d: %d frames, error %d", k, n, len(s.found), s.err)
			}
		}
		for seed := range uint32(20) {
			for _, most := range []int{3, 40, 5000, 20000} {
				if s := fed(t, sample.Uneven(b, most, seed)...); len(s.found) != len(want.found) || s.err != want.err {
					t.Errorf("log %d in uneven parts of up to %d: %d frames, error %d", k, most, len(s.found), s.err)
				}
			}
		}
	}
}

func TestP53AllParts(t *testing.T) {
	// Each way to part two frames, of 10 and 11 bytes, into parts of at least 3: many, but few enough.
	b := sample.Join(made(t, 2, 1, 0), made(t, 1, 8, 1))
	damaged := bytes.Clone(b)
	damaged[16] ^= 128
	var all func(b []byte, parts [][]byte)
	all = func(b []byte, parts [][]byte) {
		if len(b) == 0 {
			fed(t, parts...)
			return
		}
		for n := min(3, len(b)); n <= len(b); n++ {
			all(b[n:], append(parts[:len(parts):len(parts)], b[:n]))
		}
	}
	all(b, nil)
	all(damaged, nil)
}

// heap is how many bytes are in use.
func heap() uint64 {
	var m runtime.MemStats
	runtime.GC()
	runtime.GC()
	runtime.ReadMemStats(&m)
	return m.HeapAlloc
}

func TestP53Keeps(t *testing.T) {
	one := made(t, 1, 4, 4000)
	part := sample.Join(bytes.Repeat(one, 100), one[:4009])
	scanners := make([]*scan.Scanner, 100)
	ahead := heap()
	for k := range scanners {
		scanners[k] = scan.New()
		if l, e := scanners[k].Feed(part); len(l) != 100 || e != api.OK || scanners[k].Kept() != 4009 {
			t.Fatalf("%d frames, error %d, %d kept", len(l), e, scanners[k].Kept())
		}
	}
	if now := heap(); now > ahead+100*10000 {
		t.Errorf("%d bytes for 100 scanners that have 4009 to keep", now-ahead)
	}
	runtime.KeepAlive(scanners)
	runtime.KeepAlive(part)
}

func TestR1AnyBytes(t *testing.T) {
	one := made(t, 1, 2, 2)
	for n := range 1 << 16 {
		b := []byte{byte(n), byte(n >> 8)}
		fed(t, b)
		if n%16 == 0 {
			fed(t, sample.Join(one, b), one)
			fed(t, []byte("Lg"), b, one)
			fed(t, []byte("Lg\x01"), []byte{3}, b, sample.Mixed(300, 1))
		}
	}
	for seed := range uint32(2000) {
		b := sample.Mixed(int(seed%60), seed)
		fed(t, sample.Uneven(b, 5, seed)...)
		fed(t, sample.Uneven(sample.Join(one, b, one), 9, seed)...)
		fed(t, sample.Uneven(sample.Join([]byte("Lg\x02\x03\x05\x00"), b), 9, seed)...)
	}
}

func TestR2FramesBesideAnError(t *testing.T) {
	// Each frame ahead of what is wrong is told just once, in the part in which its last byte comes.
	one := made(t, 1, 2, 2)
	s := scan.New()
	if l, e := s.Feed(sample.Join(one, one[:5])); len(l) != 1 || e != api.OK {
		t.Errorf("%d frames, error %d", len(l), e)
	}
	l, e := s.Feed(sample.Join(one[5:], one, []byte("Lg\x09"), one))
	if len(l) != 2 || e != api.ErrVersion || l[0].At != 12 || l[1].At != 24 || s.At() != 36 {
		t.Errorf("%v, error %d, at %d", l, e, s.At())
	}
}

func TestR3NilAndEmpty(t *testing.T) {
	b := sample.Join(made(t, 1, 1, 0), []byte("Lg\x01\x08"))
	fed(t, nil)
	fed(t, []byte{})
	fed(t, nil, b, nil, []byte{}, []byte("x"), nil)
}

func TestR4Parts(t *testing.T) {
	one := made(t, 1, 4, 50)
	room := sample.Join(one, one, bytes.Repeat([]byte{9}, 6000))
	kept := bytes.Clone(room)
	s := scan.New()
	l, e := s.Feed(room[:80])
	if len(l) != 1 || e != api.OK || !bytes.Equal(room, kept) {
		t.Fatalf("%d frames, error %d, or the part is changed", len(l), e)
	}
	// What is kept is the scanner's own: the part may be used for something else.
	clear(room)
	if !bytes.Equal(l[0].Payload, sample.Mixed(50, 50)) {
		t.Error("a frame shares memory with the part")
	}
	copy(room, one[20:])
	m, e := s.Feed(room[:40])
	if len(m) != 1 || e != api.OK || !bytes.Equal(m[0].Payload, sample.Mixed(50, 50)) {
		t.Fatalf("%d frames, error %d: what is kept shares memory with the part", len(m), e)
	}
}

func TestR4Answers(t *testing.T) {
	one := made(t, 1, 4, 50)
	s := scan.New()
	l, _ := s.Feed(sample.Join(one, one, one[:30]))
	for k := range l {
		clear(l[k].Payload)
		_ = append(l[k].Payload, sample.Mixed(100, 3)...)
	}
	m, e := s.Feed(sample.Join(one[30:], one[:10]))
	if len(m) != 1 || e != api.OK || !bytes.Equal(m[0].Payload, sample.Mixed(50, 50)) {
		t.Fatalf("%d frames, error %d: a frame shares memory with what is kept", len(m), e)
	}
	want := bytes.Clone(m[0].Payload)
	s.Feed(sample.Join(one[10:], bytes.Repeat([]byte("L"), 300)))
	if !bytes.Equal(m[0].Payload, want) {
		t.Error("a frame is changed by what comes behind it")
	}
	if len(l) != 2 || l[0].At != 0 || l[1].At != 60 {
		t.Error("a list is changed by what comes behind it")
	}
	l[0].Payload[0] = 77
	if l[1].Payload[0] != 0 {
		t.Error("two frames of one answer share memory")
	}
}

func TestR6TwoScanners(t *testing.T) {
	one, two := made(t, 1, 4, 50), made(t, 2, 5, 30)
	r, s := scan.New(), scan.New()
	for k := range 40 {
		r.Feed(one[k : k+1])
		if k < 30 {
			s.Feed(two[k : k+1])
		}
	}
	wrong := scan.New()
	wrong.Feed([]byte("xx"))
	l, e := r.Feed(one[40:])
	if len(l) != 1 || e != api.OK || l[0].Kind != 4 || !bytes.Equal(l[0].Payload, sample.Mixed(50, 50)) {
		t.Errorf("the first: %v, error %d", l, e)
	}
	l, e = s.Feed(two[30:])
	if len(l) != 1 || e != api.OK || l[0].Kind != 5 || !bytes.Equal(l[0].Payload, sample.Mixed(30, 30)) {
		t.Errorf("the second: %v, error %d", l, e)
	}
}

func TestExample(t *testing.T) {
	b := crc.Sign([]byte{76, 103, 1, 8, 1, 0, 7})
	s := scan.New()
	if l, e := s.Feed(b[:10]); len(l) != 0 || e != api.OK {
		t.Errorf("10 bytes: %v, error %d", l, e)
	}
	l, e := s.Feed(b[10:])
	if len(l) != 1 || e != api.OK || l[0].At != 0 || l[0].Size != 11 || l[0].Version != 1 || l[0].Kind != 8 || !bytes.Equal(l[0].Payload, []byte{7}) {
		t.Errorf("1 byte more: %v, error %d", l, e)
	}
}
