package record_test

import (
	"bytes"
	"encoding/binary"
	"math"
	"slices"
	"strings"
	"testing"

	"lacuna/api"
	"lacuna/catalog"
	"lacuna/cell"
	"lacuna/chunk"
	"lacuna/event"
	"lacuna/frame"
	"lacuna/image"
	"lacuna/prim"
	"lacuna/record"
	"lacuna/rel"
	"lacuna/row"
	"lacuna/sample"
	"lacuna/value"
)

// Short names of what is made most often.
var (
	of       = sample.Cells
	ref      = sample.Ref
	insert   = sample.Insert
	update   = sample.Update
	gone     = sample.Delete
	truncate = sample.Truncate

	versions = []uint8{0, 1, 2, 3, 255}
)

// Texts that are large: of one piece, of two, and of eight.
var (
	a65   = strings.Repeat("a", 65)
	b300  = strings.Repeat("b", 300)
	c2048 = strings.Repeat("c", 2048)
)

// The relations of most tests, and a catalog of them: no test adds to these.
var (
	held  = sample.Shapes()
	known = sample.Catalog(held...)
)

// events are right by shapes, of all kinds.
func events(n uint32) []event.Event {
	l := sample.Truncates(sample.Shapes())
	for _, r := range sample.Shapes() {
		l = append(l, sample.Events(r, n)...)
	}
	return l
}

// find is the relation of a ref.
func find(at rel.Ref) (rel.Rel, bool) {
	for _, r := range held {
		if r.Oid == at.Oid && r.Version == at.Version {
			return r, true
		}
	}
	return rel.Rel{}, false
}

// sevens are numbers, one behind the other.
func sevens(l ...uint64) []byte {
	var b []byte
	for _, n := range l {
		b = binary.AppendUvarint(b, n)
	}
	return b
}

// refs are refs, one behind the other.
func refs(l ...rel.Ref) []byte {
	var b []byte
	for _, at := range l {
		b = append(b, sevens(uint64(at.Oid), uint64(at.Version))...)
	}
	return b
}

// imageByWords is a row's bytes.
func imageByWords(w row.Row, r rel.Rel, version uint8) []byte {
	b, _ := w.Encode(r, version)
	return b
}

// putByWords is what P15.2 says that Put answers, of what is held.
func putByWords(v event.Event, version uint8) ([]byte, []string, api.Errno) {
	if version < 1 || version > 2 {
		return nil, nil, api.ErrVersion
	}
	if e := v.Right(known); e != api.OK {
		return nil, nil, e
	}
	var pieces []string
	for _, c := range slices.Concat(v.Before, v.After) {
		for s := c.Value.Text; c.Kind == 2 && len(c.Value.Text) > 64 && s != ""; {
			n := min(len(s), 256)
			pieces, s = append(pieces, s[:n]), s[n:]
		}
	}
	r, _ := find(v.At)
	switch v.Kind {
	case 4:
		return slices.Concat(refs(v.At), imageByWords(v.After, r, version)), pieces, api.OK
	case 5:
		if v.Old == 0 {
			return slices.Concat(refs(v.At), []byte{0}, imageByWords(v.After, r, version)), pieces, api.OK
		}
		return slices.Concat(refs(v.At), []byte{v.Old}, imageByWords(v.Before, r, version), imageByWords(v.After, r, version)), pieces, api.OK
	case 6:
		return slices.Concat(refs(v.At), []byte{v.Old}, imageByWords(v.Before, r, version)), pieces, api.OK
	}
	return slices.Concat([]byte{v.Flags}, sevens(uint64(len(v.Refs))), refs(v.Refs...)), pieces, api.OK
}

// takeByWords is what P15.3 says that Take answers, of what is held.
func takeByWords(kind uint8, b []byte, version uint8) (record.Part, api.Errno) {
	bad := func(e api.Errno) (record.Part, api.Errno) { return record.Part{}, e }
	if kind < 4 || kind > 7 {
		return bad(api.ErrKind)
	}
	if version != 1 && version != 2 {
		return bad(api.ErrVersion)
	}
	in, p := prim.Read(b), record.Part{}
	p.Event.Kind = kind
	if kind == 7 {
		p.Event.Flags = in.Byte()
		for n := in.Uint(8); n > 0; n-- {
			at := rel.Ref{Oid: uint32(in.Uint(1<<32 - 1))}
			at.Version = uint32(in.Uint(1<<32 - 1))
			p.Event.Refs = append(p.Event.Refs, at)
		}
	} else {
		p.Event.At.Oid = uint32(in.Uint(1<<32 - 1))
		p.Event.At.Version = uint32(in.Uint(1<<32 - 1))
		if in.Err() != api.OK {
			return bad(in.Err())
		}
		r, there := find(p.Event.At)
		if !there {
			return bad(api.ErrMissing)
		}
		if kind != 4 {
			p.Event.Old = in.Byte()
		}
		if p.Event.Old >= 3 {
			return bad(api.ErrImage)
		}
		if p.Event.Old > 0 {
			p.Event.Before, p.Before = row.Take(in, r, version)
		}
		if kind != 6 {
			p.Event.After, p.After = row.Take(in, r, version)
		}
	}
	if in.Err() != api.OK {
		return bad(in.Err())
	}
	if in.Left() > 0 {
		return bad(api.ErrLong)
	}
	return p, api.OK
}

// fillByWords is what P15.4 says that Fill answers.
func fillByWords(p record.Part, pieces []string) (event.Event, api.Errno) {
	var sizes []int
	for _, h := range p.Before {
		sizes = append(sizes, h.Size)
	}
	for _, h := range p.After {
		sizes = append(sizes, h.Size)
	}
	texts, e := chunk.Join(pieces, sizes...)
	if e != api.OK {
		return event.Event{}, e
	}
	v := p.Event
	if v.Before, e = p.Event.Before.Fill(p.Before, texts[:len(p.Before)]); e != api.OK {
		return event.Event{}, e
	}
	if v.After, e = p.Event.After.Fill(p.After, texts[len(p.Before):]); e != api.OK {
		return event.Event{}, e
	}
	return v, api.OK
}

// equal: is it one event in part, field by field?
func equal(p, o record.Part) bool {
	return sample.EqualEvent(p.Event, o.Event) && slices.Equal(p.Before, o.Before) && slices.Equal(p.After, o.After)
}

// nothing: is it one of which all is zero?
func nothing(p record.Part) bool {
	return equal(p, record.Part{}) && p.Event.Before == nil && p.Event.After == nil && p.Refs == nil && p.Before == nil && p.After == nil
}

// none: is it an event of which all is zero?
func none(v event.Event) bool {
	return sample.EqualEvent(v, event.Event{}) && v.Before == nil && v.After == nil && v.Refs == nil
}

// pieces are such as an event in part has, by their lengths.
func pieces(p record.Part) []string {
	var texts []string
	for k, h := range slices.Concat(p.Before, p.After) {
		texts = append(texts, strings.Repeat(string(rune('k'+k)), h.Size))
	}
	return chunk.Split(texts...)
}

// taken holds Take against the words, and what it takes, when it is filled and right, against Put.
func taken(t *testing.T, kind uint8, b []byte, version uint8) api.Errno {
	t.Helper()
	p, e := record.Take(known, kind, b, version)
	want, err := takeByWords(kind, b, version)
	if e != err || !equal(p, want) || e != api.OK && !nothing(p) {
		t.Fatalf("%v of the kind %d, version %d: %v, error %d, not %v, %d", b, kind, version, p, e, want, err)
	}
	if e != api.OK {
		return e
	}
	v, e := p.Fill(pieces(p))
	if e != api.OK || p.Count() != len(pieces(p)) {
		t.Fatalf("%v: filled with error %d, %d pieces", p, e, p.Count())
	}
	if v.Right(known) == api.OK {
		if back, l, e := record.Put(known, v, version); e != api.OK || !bytes.Equal(back, b) || !slices.Equal(l, pieces(p)) {
			t.Fatalf("%v, version %d: put as %v, %d pieces, error %d, not %v", v, version, back, len(l), e, b)
		}
	}
	return api.OK
}

func TestP151PutBegin(t *testing.T) {
	for _, x := range []struct {
		xid   uint32
		stamp uint64
		want  string
	}{
		{0, 0, "\x00\x00"},
		{1, 0, "\x01\x00"},
		{5, 300, "\x05\xac\x02"},
		{127, 128, "\x7f\x80\x01"},
		{300, 5, "\xac\x02\x05"},
		{math.MaxUint32, math.MaxUint32, "\xff\xff\xff\xff\x0f\xff\xff\xff\xff\x0f"},
		{math.MaxUint32, math.MaxUint64, "\xff\xff\xff\xff\x0f\xff\xff\xff\xff\xff\xff\xff\xff\xff\x01"},
	} {
		if b := record.PutBegin(x.xid, x.stamp); string(b) != x.want {
			t.Errorf("%d, %d: %v", x.xid, x.stamp, b)
		}
	}
}

func TestP151TakeBegin(t *testing.T) {
	for _, x := range []struct {
		name, b string
		xid     uint32
		stamp   uint64
		e       api.Errno
	}{
		{"the number 1", "\x01\x00", 1, 0, api.OK},
		{"both", "\x05\xac\x02", 5, 300, api.OK},
		{"the greatest ones", "\xff\xff\xff\xff\x0f\xff\xff\xff\xff\xff\xff\xff\xff\xff\x01", math.MaxUint32, math.MaxUint64, api.OK},
		{"the number 0", "\x00\x00", 0, 0, api.ErrRange},
		{"the number 0 with a stamp", "\x00\xac\x02", 0, 0, api.ErrRange},
		{"the number 2^32", "\x80\x80\x80\x80\x10\x00", 0, 0, api.ErrRange},
		{"a number of 64 bits", "\xff\xff\xff\xff\xff\xff\xff\xff\xff\x01\x00", 0, 0, api.ErrRange},
		{"no byte", "", 0, 0, api.ErrShort},
		{"half a number", "\xac", 0, 0, api.ErrShort},
		{"no stamp", "\x05", 0, 0, api.ErrShort},
		{"half a stamp", "\x05\xac", 0, 0, api.ErrShort},
		{"nine of ten digits of a stamp", "\x05" + strings.Repeat("\xff", 9), 0, 0, api.ErrShort},
		{"a byte too many", "\x05\x07\x00", 0, 0, api.ErrLong},
		{"many too many", "\x05\x07" + strings.Repeat("\xff", 99), 0, 0, api.ErrLong},
		{"a number longer than it is", "\x85\x00\x07", 0, 0, api.ErrOver},
		{"a 0 longer than it is", "\x80\x00\x07", 0, 0, api.ErrOver},
		{"a stamp longer than it is", "\x05\x87\x00", 0, 0, api.ErrOver},
		{"a stamp of 2^64", "\x05" + strings.Repeat("\x80", 9) + "\x02", 0, 0, api.ErrOver},
		{"a stamp of eleven digits", "\x05" + strings.Repeat("\x80", 10) + "\x01", 0, 0, api.ErrOver},

		{"a great number ahead of no stamp", "\x80\x80\x80\x80\x10", 0, 0, api.ErrRange},
		{"a great number ahead of a wrong stamp", "\x80\x80\x80\x80\x10\x80\x00", 0, 0, api.ErrRange},
		{"a long number ahead of no stamp", "\x80\x00", 0, 0, api.ErrOver},
		{"no stamp ahead of the number 0", "\x00", 0, 0, api.ErrShort},
		{"a wrong stamp ahead of the number 0", "\x00\x80\x00", 0, 0, api.ErrOver},
		{"bytes too many ahead of the number 0", "\x00\x00\x00", 0, 0, api.ErrLong},
		{"a wrong stamp ahead of bytes too many", "\x05\x80\x00\x00", 0, 0, api.ErrOver},
	} {
		if xid, stamp, e := record.TakeBegin([]byte(x.b)); xid != x.xid || stamp != x.stamp || e != x.e {
			t.Errorf("%s: %d, %d, error %d, not %d", x.name, xid, stamp, e, x.e)
		}
	}
}

func TestP151PutCommit(t *testing.T) {
	for _, x := range []struct {
		xid    uint32
		events int
		want   string
	}{
		{0, 0, "\x00\x00"},
		{5, 0, "\x05\x00"},
		{5, -1, "\x05\x00"},
		{5, math.MinInt, "\x05\x00"},
		{1, 1, "\x01\x01"},
		{300, 512, "\xac\x02\x80\x04"},
		{math.MaxUint32, 513, "\xff\xff\xff\xff\x0f\x81\x04"},
		{1, math.MaxInt, "\x01\xff\xff\xff\xff\xff\xff\xff\xff\x7f"},
	} {
		if b := record.PutCommit(x.xid, x.events); string(b) != x.want {
			t.Errorf("%d, %d: %v", x.xid, x.events, b)
		}
	}
}

func TestP151TakeCommit(t *testing.T) {
	for _, x := range []struct {
		name, b string
		xid     uint32
		events  int
		e       api.Errno
	}{
		{"the number 1", "\x01\x00", 1, 0, api.OK},
		{"the number 0", "\x00\x00", 0, 0, api.OK},
		{"the number 0 with events", "\x00\x07", 0, 7, api.OK},
		{"both", "\xac\x02\x05", 300, 5, api.OK},
		{"the greatest ones", "\xff\xff\xff\xff\x0f\x80\x04", math.MaxUint32, 512, api.OK},
		{"the number 2^32", "\x80\x80\x80\x80\x10\x00", 0, 0, api.ErrRange},
		{"513 events", "\x05\x81\x04", 0, 0, api.ErrRange},
		{"2^64 - 1 events", "\x05" + strings.Repeat("\xff", 9) + "\x01", 0, 0, api.ErrRange},
		{"no byte", "", 0, 0, api.ErrShort},
		{"half a number", "\xac", 0, 0, api.ErrShort},
		{"no events", "\x05", 0, 0, api.ErrShort},
		{"half of the events", "\x05\x80", 0, 0, api.ErrShort},
		{"a byte too many", "\x05\x07\x00", 0, 0, api.ErrLong},
		{"a number longer than it is", "\x85\x00\x07", 0, 0, api.ErrOver},
		{"events longer than they are", "\x05\x87\x00", 0, 0, api.ErrOver},
		{"2^64 events", "\x05" + strings.Repeat("\x80", 9) + "\x02", 0, 0, api.ErrOver},

		{"a great number ahead of no events", "\x80\x80\x80\x80\x10", 0, 0, api.ErrRange},
		{"a long number ahead of 513 events", "\x80\x00\x81\x04", 0, 0, api.ErrOver},
		{"513 events ahead of bytes too many", "\x05\x81\x04\x00", 0, 0, api.ErrRange},
		{"a great number ahead of long events", "\x80\x80\x80\x80\x10\x80\x00", 0, 0, api.ErrRange},
	} {
		if xid, n, e := record.TakeCommit([]byte(x.b)); xid != x.xid || n != x.events || e != x.e {
			t.Errorf("%s: %d, %d, error %d, not %d", x.name, xid, n, e, x.e)
		}
	}
}

// numbers are of each count of digits.
func numbers() []uint64 {
	l := []uint64{0}
	for n := range 64 {
		l = append(l, 1<<n-1, 1<<n, 1<<n+1, 1<<n*5/3)
	}
	return append(l, 299, 300, 511, 512, 513, math.MaxUint64)
}

// twoByWords is what goes wrong first of two numbers, the first one up to 2^32 - 1, the second one up to most, and both.
func twoByWords(b []byte, most uint64) (uint64, uint64, api.Errno) {
	in := prim.Read(b)
	one := in.Uint(1<<32 - 1)
	two := in.Uint(most)
	if e := in.End(); e != api.OK {
		return 0, 0, e
	}
	return one, two, api.OK
}

// both hold TakeBegin and TakeCommit against the words.
func both(t *testing.T, b []byte) {
	t.Helper()
	xid, stamp, e := record.TakeBegin(b)
	one, two, want := twoByWords(b, math.MaxUint64)
	if want == api.OK && one == 0 {
		two, want = 0, api.ErrRange
	}
	if uint64(xid) != one || stamp != two || e != want {
		t.Fatalf("%v: a begin of %d, %d, error %d, not %d", b, xid, stamp, e, want)
	}
	if e == api.OK && !bytes.Equal(record.PutBegin(xid, stamp), b) {
		t.Fatalf("%v: put as %v", b, record.PutBegin(xid, stamp))
	}
	xid, n, e := record.TakeCommit(b)
	one, two, want = twoByWords(b, 512)
	if uint64(xid) != one || uint64(n) != two || e != want {
		t.Fatalf("%v: a commit of %d, %d, error %d, not %d", b, xid, n, e, want)
	}
	if e == api.OK && !bytes.Equal(record.PutCommit(xid, n), b) {
		t.Fatalf("%v: put as %v", b, record.PutCommit(xid, n))
	}
}

func TestP151ByItsWords(t *testing.T) {
	for _, one := range numbers() {
		for _, two := range numbers() {
			b := sevens(one, two)
			both(t, b)
			xid, stamp := uint32(one), two
			if one > math.MaxUint32 {
				continue
			}
			if p := record.PutBegin(xid, stamp); !bytes.Equal(p, b) {
				t.Fatalf("%d, %d: %v", xid, stamp, p)
			}
			if p := record.PutCommit(xid, int(two)); two <= math.MaxInt && !bytes.Equal(p, b) {
				t.Fatalf("%d, %d: %v", xid, two, p)
			}
			if two%3 != 0 {
				continue
			}
			for n := range b {
				// Cut, with each digit as one that may not be last, and with one that ends it ahead.
				both(t, b[:n])
				for _, d := range []byte{0, 1, 2, 128, 255} {
					both(t, slices.Concat(b[:n], []byte{d}, b[n:]))
					both(t, slices.Concat(b[:n], []byte{d}, b[n+1:]))
				}
				both(t, slices.Concat(b, b[:n]))
			}
		}
	}
	for seed := range uint32(4000) {
		both(t, sample.Mixed(int(seed%24), seed))
	}
	// All bytes of two.
	for k := range 1 << 16 {
		both(t, []byte{byte(k), byte(k >> 8)})
	}
}

// kinds are the names of the relations of literal payloads: of each identity one, with an int that is the key, a text and bytes.
func kinds() (byKey, byFull, byNothing rel.Rel) {
	r := sample.Rel(value.Int, value.Text, value.Bytes)
	return sample.At(sample.Keyed(r, rel.Key, 0), 5, 1), sample.At(sample.Keyed(r, rel.Full, 0), 300, 2), sample.At(r, math.MaxUint32, 1)
}

// of3 is a row of these.
func of3(n int64, text, more string) row.Row {
	return row.Row{sample.Int(n), sample.Text(text), sample.Bytes(more)}
}

// keyOf is a key image of these.
func keyOf(n int64) row.Row { return row.Row{sample.Int(n), {}, {}} }

// payloads are events, and their payloads and pieces.
func payloads() []struct {
	name     string
	v        event.Event
	one, two string
	pieces   []string
} {
	same := of3(9, "", "e")
	same[1] = cell.Cell{Kind: cell.Same}
	nine := "\x01\x09\x00\x00\x00\x00\x00\x00\x00"
	eight := "\x01\x08\x00\x00\x00\x00\x00\x00\x00"
	byKey, byFull, byNothing := ref(5, 1), ref(300, 2), ref(math.MaxUint32, 1)
	return []struct {
		name     string
		v        event.Event
		one, two string
		pieces   []string
	}{
		{"an insert", insert(byKey, of3(9, "ab", "e")), "\x05\x01\x00" + nine + "\x01\x02ab\x01\x01e", "\x05\x01\x00\x12\x04ab\x03e", nil},
		{"an insert with a null", insert(byKey, row.Row{sample.Int(9), {}, sample.Bytes("e")}), "\x05\x01\x02" + nine + "\x01\x01e", "\x05\x01\x02\x12\x03e", nil},
		{"an insert of all null", insert(byNothing, make(row.Row, 3)), "\xff\xff\xff\xff\x0f\x01\x07", "\xff\xff\xff\xff\x0f\x01\x07", nil},
		{"an insert with a large text", insert(byKey, of3(9, b300, "e")), "\x05\x01\x00" + nine + "\x02\xac\x02\x01\x01e", "\x05\x01\x00\x12\x01\xac\x02\x03e", []string{b300[:256], b300[256:]}},
		{"an insert with two", insert(byKey, of3(9, a65, c2048[:257])), "\x05\x01\x00" + nine + "\x02\x41\x02\x81\x02", "\x05\x01\x00\x12\x01\x41\x01\x81\x02", []string{a65, c2048[:256], "c"}},
		{"an update without an old image", update(byNothing, image.None, nil, same), "\xff\xff\xff\xff\x0f\x01\x00\x00" + nine + "\x00\x01\x01e", "\xff\xff\xff\xff\x0f\x01\x00\x00\x12\x00\x03e", nil},
		{"an update without one, by key", update(byKey, image.None, nil, of3(9, a65, "")), "\x05\x01\x00\x00" + nine + "\x02\x41\x01\x00", "\x05\x01\x00\x00\x12\x01\x41\x02", []string{a65}},
		{"an update with a key image", update(byKey, image.Key, keyOf(8), of3(9, "ab", a65)), "\x05\x01\x01\x06" + eight + "\x00" + nine + "\x01\x02ab\x02\x41", "\x05\x01\x01\x06\x10\x00\x12\x04ab\x01\x41", []string{a65}},
		{"an update with a full image", update(byFull, image.Full, of3(9, "a", "e"), of3(9, "a", "e")), "\xac\x02\x02\x02\x00" + nine + "\x01\x01a\x01\x01e\x00" + nine + "\x01\x01a\x01\x01e", "\xac\x02\x02\x02\x00\x12\x03a\x03e\x00\x12\x03a\x03e", nil},
		{"an update with a large text in the old image", update(byFull, image.Full, of3(8, a65, "e"), same), "\xac\x02\x02\x02\x00" + eight + "\x02\x41\x01\x01e\x00" + nine + "\x00\x01\x01e", "\xac\x02\x02\x02\x00\x10\x01\x41\x03e\x00\x12\x00\x03e", []string{a65}},
		{"an update with some in both", update(byFull, image.Full, of3(8, b300, a65), of3(9, a65, b300)), "\xac\x02\x02\x02\x00" + eight + "\x02\xac\x02\x02\x41\x00" + nine + "\x02\x41\x02\xac\x02", "\xac\x02\x02\x02\x00\x10\x01\xac\x02\x01\x41\x00\x12\x01\x41\x01\xac\x02", []string{b300[:256], b300[256:], a65, a65, b300[:256], b300[256:]}},
		{"a delete with a key image", gone(byKey, image.Key, keyOf(9)), "\x05\x01\x01\x06" + nine, "\x05\x01\x01\x06\x12", nil},
		{"a delete with a full image", gone(byFull, image.Full, of3(9, "ab", "")), "\xac\x02\x02\x02\x00" + nine + "\x01\x02ab\x01\x00", "\xac\x02\x02\x02\x00\x12\x04ab\x02", nil},
		{"a delete with the largest text", gone(byFull, image.Full, of3(9, c2048, "e")), "\xac\x02\x02\x02\x00" + nine + "\x02\x80\x10\x01\x01e", "\xac\x02\x02\x02\x00\x12\x01\x80\x10\x03e", slices.Repeat([]string{c2048[:256]}, 8)},
		{"a truncate of one", truncate(0, byKey), "\x00\x01\x05\x01", "\x00\x01\x05\x01", nil},
		{"a truncate of three", truncate(3, byKey, byFull, byNothing), "\x03\x03\x05\x01\xac\x02\x02\xff\xff\xff\xff\x0f\x01", "\x03\x03\x05\x01\xac\x02\x02\xff\xff\xff\xff\x0f\x01", nil},
	}
}

func TestP152Put(t *testing.T) {
	byKey, byFull, byNothing := kinds()
	c := sample.Catalog(byKey, byFull, byNothing)
	for _, x := range payloads() {
		for version, want := range map[uint8]string{1: x.one, 2: x.two} {
			b, l, e := record.Put(c, x.v, version)
			if e != api.OK || string(b) != want || !slices.Equal(l, x.pieces) {
				t.Errorf("%s in version %d: %v, %d pieces, error %d", x.name, version, b, len(l), e)
			}
			p, e := record.Take(c, x.v.Kind, []byte(want), version)
			if e != api.OK || p.Count() != len(x.pieces) {
				t.Errorf("%s in version %d: %v, error %d", x.name, version, p, e)
			}
			if v, e := p.Fill(x.pieces); e != api.OK || !sample.EqualEvent(v, x.v) {
				t.Errorf("%s in version %d: %v, error %d", x.name, version, v, e)
			}
		}
	}
}

func TestP152PutVersions(t *testing.T) {
	for _, v := range events(2) {
		for version := range 256 {
			b, l, e := record.Put(known, v, uint8(version))
			want := api.ErrVersion
			if version == 1 || version == 2 {
				want = api.OK
			}
			if e != want || e != api.OK && (b != nil || l != nil) {
				t.Fatalf("%v in version %d: %v, %d pieces, error %d", v, version, b, len(l), e)
			}
		}
	}
}

func TestP152PutWrong(t *testing.T) {
	told := map[api.Errno]bool{}
	for _, x := range sample.WrongEvents() {
		told[x.Err] = true
		for _, version := range versions {
			want := x.Err
			if version != 1 && version != 2 {
				want = api.ErrVersion
			}
			if b, l, e := record.Put(known, x.Event, version); e != want || b != nil || l != nil {
				t.Errorf("%s in version %d: %v, %d pieces, error %d, not %d", x.Name, version, b, len(l), e, want)
			}
		}
	}
	for _, e := range []api.Errno{api.ErrLong, api.ErrForm, api.ErrRange, api.ErrKind, api.ErrMissing, api.ErrType, api.ErrNull, api.ErrKey, api.ErrImage, api.ErrOrder, api.ErrCount} {
		if !told[e] {
			t.Errorf("the error %d is not told", e)
		}
	}
	// By another catalog what was right is missing.
	for _, v := range events(2) {
		if b, l, e := record.Put(catalog.New(), v, 1); e != api.ErrMissing || b != nil || l != nil {
			t.Errorf("%v: error %d", v, e)
		}
	}
}

func TestP152PutByItsWords(t *testing.T) {
	pieces := map[int]int{}
	for _, v := range events(12) {
		for version := uint8(1); version <= 2; version++ {
			b, got, e := record.Put(known, v, version)
			want, split, _ := putByWords(v, version)
			if e != api.OK || !bytes.Equal(b, want) || !slices.Equal(got, split) {
				t.Fatalf("%v, version %d: %v, %d pieces, error %d, not %v, %d", v, version, b, len(got), e, want, len(split))
			}
			if len(b) > api.MaxPayload {
				t.Fatalf("%v, version %d: %d bytes", v, version, len(b))
			}
			pieces[min(len(got), 9)]++
		}
	}
	for _, n := range []int{0, 1, 2, 3, 8, 9} {
		if pieces[n] == 0 {
			t.Errorf("no event has %d pieces", n)
		}
	}
}

func TestP152TheLongest(t *testing.T) {
	// The longest payloads that there are still stand in a frame.
	text := strings.Repeat("x", 64)
	r := sample.At(sample.Texts(16, rel.Full), math.MaxUint32, math.MaxUint32)
	w := of(slices.Repeat([]string{text}, 16)...)
	c := sample.Catalog(r)
	large := of(slices.Repeat([]string{c2048}, 16)...)
	for version := uint8(1); version <= 2; version++ {
		b, l, e := record.Put(c, update(r.Ref, image.Full, w, w), version)
		if e != api.OK || len(b) > api.MaxPayload || len(l) != 0 {
			t.Errorf("%d bytes, %d pieces, error %d", len(b), len(l), e)
		}
		v := update(r.Ref, image.Full, large, large)
		b, l, e = record.Put(c, v, version)
		if e != api.OK || len(b) > api.MaxPayload || len(l) != 256 {
			t.Errorf("%d bytes, %d pieces, error %d", len(b), len(l), e)
		}
		p, e := record.Take(c, frame.Update, b, version)
		if o, err := p.Fill(l); e != api.OK || err != api.OK || p.Count() != 256 || !sample.EqualEvent(o, v) {
			t.Errorf("%d pieces, errors %d, %d", p.Count(), e, err)
		}
	}
}

func TestP153TakeKindsAndVersions(t *testing.T) {
	for _, b := range []string{"", "\x00", "\x00\x01\x01\x01", "\x01\x01\x00\x03a\x03b\x03c", "\x01\x01\x01\x06\x03a", "\x01\x01\x00\x00\x03a\x03b\x03c"} {
		for kind := range 256 {
			for _, version := range versions {
				e := taken(t, uint8(kind), []byte(b), version)
				switch {
				case kind < frame.Insert || kind > frame.Truncate:
					if e != api.ErrKind {
						t.Fatalf("kind %d, version %d: error %d", kind, version, e)
					}
				case version != 1 && version != 2:
					if e != api.ErrVersion {
						t.Fatalf("kind %d, version %d: error %d", kind, version, e)
					}
				}
			}
		}
	}
}

// wrongs are payloads of the version 2 that are wrong by shapes, and what goes wrong first.
func wrongs() []struct {
	name string
	kind uint8
	b    string
	e    api.Errno
} {
	const great = "\x80\x80\x80\x80\x10"
	const key, full = "\x06\x03a", "\x00\x03a\x03b"
	return []struct {
		name string
		kind uint8
		b    string
		e    api.Errno
	}{
		{"no byte", frame.Insert, "", api.ErrShort},
		{"no byte of an update", frame.Update, "", api.ErrShort},
		{"no byte of a delete", frame.Delete, "", api.ErrShort},
		{"half an oid", frame.Insert, "\x81", api.ErrShort},
		{"an oid longer than it is", frame.Insert, "\x81\x00\x01", api.ErrOver},
		{"an oid of 2^32", frame.Insert, great + "\x01\x07", api.ErrRange},
		{"an oid of 2^32 of an update", frame.Update, great + "\x01\x00", api.ErrRange},
		{"an oid of 2^32 of a delete", frame.Delete, great + "\x01\x00", api.ErrRange},
		{"no version", frame.Insert, "\x01", api.ErrShort},
		{"a version longer than it is", frame.Delete, "\x01\x81\x00", api.ErrOver},
		{"a version of 2^32", frame.Insert, "\x01" + great, api.ErrRange},
		{"a version of 2^32 of a delete", frame.Delete, "\x01" + great, api.ErrRange},
		{"a ref that is missing", frame.Insert, "\x01\x03\x00\x03a", api.ErrMissing},
		{"the ref 0 0", frame.Insert, "\x00\x00", api.ErrMissing},
		{"a ref that is missing, of an update", frame.Update, "\x03\x01\x00", api.ErrMissing},
		{"the greatest ref of another version", frame.Delete, "\xff\xff\xff\xff\x0f\x02", api.ErrMissing},
		{"no kind of an old image", frame.Update, "\x01\x01", api.ErrShort},
		{"no kind of an old image of a delete", frame.Delete, "\x01\x01", api.ErrShort},
		{"an old image of the kind 3", frame.Update, "\x01\x01\x03", api.ErrImage},
		{"an old image of the kind 3 of a delete", frame.Delete, "\x01\x01\x03" + key, api.ErrImage},
		{"an old image of the kind 255", frame.Delete, "\x01\x01\xff", api.ErrImage},
		{"no new image", frame.Insert, "\x01\x02", api.ErrShort},
		{"no new image behind no old one", frame.Update, "\x01\x02\x00", api.ErrShort},
		{"no old image", frame.Delete, "\x01\x02\x02", api.ErrShort},
		{"no old image of an update", frame.Update, "\x01\x02\x02", api.ErrShort},
		{"half an old image", frame.Delete, "\x01\x02\x02\x00\x03a", api.ErrShort},
		{"an old image, and no new one", frame.Update, "\x01\x02\x02" + full, api.ErrShort},
		{"an old image, and half a new one", frame.Update, "\x01\x02\x02" + full + "\x00\x03", api.ErrShort},
		{"a bit behind the columns", frame.Insert, "\x01\x02\x04\x03a\x03b", api.ErrForm},
		{"a bit behind the columns of the old image", frame.Update, "\x01\x02\x01\x04\x03a\x03b" + full, api.ErrForm},
		{"a text of other bytes", frame.Insert, "\x01\x02\x00\x03\n\x03b", api.ErrForm},
		{"a text of other bytes in the old image", frame.Delete, "\x01\x02\x02\x00\x03\n\x03b", api.ErrForm},
		{"a text of other bytes in the new image", frame.Update, "\x01\x02\x02" + full + "\x00\x03a\x03\x7f", api.ErrForm},
		{"a large text of 64 bytes", frame.Insert, "\x01\x02\x00\x01\x40\x03b", api.ErrRange},
		{"a large text of 2049 bytes in the old image", frame.Delete, "\x01\x02\x02\x00\x01\x81\x10\x03b", api.ErrRange},
		{"a byte behind an insert", frame.Insert, "\x01\x02" + full + "\x00", api.ErrLong},
		{"a byte behind an update", frame.Update, "\x01\x02\x00" + full + "\x00", api.ErrLong},
		{"a byte behind a delete", frame.Delete, "\x01\x01\x01" + key + "\x00", api.ErrLong},
		{"a new image behind a delete", frame.Delete, "\x01\x02\x02" + full + full, api.ErrLong},
		{"a byte behind a delete without an old image", frame.Delete, "\x01\x01\x00\x00", api.ErrLong},

		{"no flags", frame.Truncate, "", api.ErrShort},
		{"no count", frame.Truncate, "\x00", api.ErrShort},
		{"half a count", frame.Truncate, "\x00\x81", api.ErrShort},
		{"a count longer than it is", frame.Truncate, "\x00\x81\x00\x01\x01", api.ErrOver},
		{"nine refs", frame.Truncate, "\x00\x09" + strings.Repeat("\x01\x01", 9), api.ErrRange},
		{"2^63 refs", frame.Truncate, "\x00" + strings.Repeat("\x80", 9) + "\x01", api.ErrRange},
		{"no ref", frame.Truncate, "\x00\x01", api.ErrShort},
		{"half a ref", frame.Truncate, "\x00\x01\x01", api.ErrShort},
		{"one ref of two", frame.Truncate, "\x00\x02\x01\x01", api.ErrShort},
		{"a ref's oid of 2^32", frame.Truncate, "\x00\x01" + great + "\x01", api.ErrRange},
		{"a ref's version of 2^32", frame.Truncate, "\x00\x01\x01" + great, api.ErrRange},
		{"the second ref's version of 2^32", frame.Truncate, "\x00\x02\x01\x01\x01" + great, api.ErrRange},
		{"a ref's oid longer than it is", frame.Truncate, "\x00\x01\x80\x00\x01", api.ErrOver},
		{"a byte behind a truncate", frame.Truncate, "\x00\x01\x01\x01\x00", api.ErrLong},
		{"a byte behind a truncate of none", frame.Truncate, "\x00\x00\x01", api.ErrLong},

		{"an oid ahead of a version", frame.Insert, great + great, api.ErrRange},
		{"a long oid ahead of a version", frame.Insert, "\x80\x00" + great, api.ErrOver},
		{"an oid ahead of no version", frame.Delete, great, api.ErrRange},
		{"no version ahead of a ref that is missing", frame.Insert, "\x09", api.ErrShort},
		{"a version ahead of a ref that is missing", frame.Insert, "\x09" + great, api.ErrRange},
		{"a missing ref ahead of no kind of an old image", frame.Update, "\x09\x01", api.ErrMissing},
		{"a missing ref ahead of an old image's kind", frame.Update, "\x09\x01\x03", api.ErrMissing},
		{"a missing ref ahead of no image", frame.Insert, "\x09\x01", api.ErrMissing},
		{"an old image's kind ahead of no image", frame.Update, "\x01\x02\x03", api.ErrImage},
		{"an old image's kind ahead of an image", frame.Delete, "\x01\x02\x03\x04", api.ErrImage},
		{"an old image's kind ahead of bytes too many", frame.Delete, "\x01\x02\x03" + full + "\x00", api.ErrImage},
		{"an old image ahead of a new one", frame.Update, "\x01\x02\x02\x00\x03a\x01\x40\x04", api.ErrRange},
		{"an old image's bit ahead of a new image's text", frame.Update, "\x01\x02\x02\x08\x03\n", api.ErrForm},
		{"an old image ahead of bytes too many", frame.Delete, "\x01\x02\x02\x04\x03a\x03b\x00\x00", api.ErrForm},
		{"a new image ahead of bytes too many", frame.Insert, "\x01\x02\x00\x03a\x01\x40\x00\x00", api.ErrRange},
		{"nine refs ahead of none of them", frame.Truncate, "\x00\x09", api.ErrRange},
		{"nine refs ahead of a wrong one", frame.Truncate, "\x00\x09\x80\x00", api.ErrRange},
		{"the first ref ahead of the second", frame.Truncate, "\x00\x02" + great + "\x01\x80\x00", api.ErrRange},
		{"the first ref ahead of no second", frame.Truncate, "\x00\x02\x80\x00", api.ErrOver},
		{"a wrong ref ahead of bytes too many", frame.Truncate, "\x00\x01\x80\x00\x00\x00\x00", api.ErrOver},
	}
}

func TestP153TakeWrong(t *testing.T) {
	for _, x := range wrongs() {
		p, e := record.Take(known, x.kind, []byte(x.b), 2)
		if e != x.e || !nothing(p) {
			t.Errorf("%s: %v, error %d, not %d", x.name, p, e, x.e)
		}
		taken(t, x.kind, []byte(x.b), 2)
		taken(t, x.kind, []byte(x.b), 1)
		// A kind ahead of a version, and both ahead of all bytes.
		if p, e := record.Take(known, x.kind, []byte(x.b), 3); e != api.ErrVersion || !nothing(p) {
			t.Errorf("%s in version 3: %v, error %d", x.name, p, e)
		}
		if p, e := record.Take(known, frame.Commit, []byte(x.b), 0); e != api.ErrKind || !nothing(p) {
			t.Errorf("%s as a commit in version 0: %v, error %d", x.name, p, e)
		}
	}
}

func TestP153TakeNotRight(t *testing.T) {
	// What is read may be an event that is not right: that is layer 13's.
	one := ref(1, 1)
	same := row.Row{sample.Text("a"), {Kind: cell.Same}, sample.Text("c")}
	for _, x := range []struct {
		name string
		kind uint8
		b    string
		want event.Event
		e    api.Errno
	}{
		{"a truncate of no refs", frame.Truncate, "\x00\x00", truncate(0), api.ErrCount},
		{"flags of 4", frame.Truncate, "\x04\x01\x01\x01", truncate(4, one), api.ErrRange},
		{"flags of 255", frame.Truncate, "\xff\x01\x01\x01", truncate(255, one), api.ErrRange},
		{"refs that fall", frame.Truncate, "\x00\x02\x02\x01\x01\x01", truncate(0, ref(2, 1), one), api.ErrOrder},
		{"refs twice", frame.Truncate, "\x00\x02\x01\x01\x01\x01", truncate(0, one, one), api.ErrOrder},
		{"refs that are missing", frame.Truncate, "\x00\x02\x00\x00\x09\x09", truncate(0, ref(0, 0), ref(9, 9)), api.ErrMissing},
		{"eight refs that are one", frame.Truncate, "\x01\x08" + strings.Repeat("\x01\x01", 8), truncate(1, slices.Repeat([]rel.Ref{one}, 8)...), api.ErrOrder},
		{"refs of great numbers", frame.Truncate, "\x00\x01\xff\xff\xff\xff\x0f\xff\xff\xff\xff\x0f", truncate(0, ref(math.MaxUint32, math.MaxUint32)), api.OK},
		{"an insert with a null in the key", frame.Insert, "\x01\x01\x07", insert(one, make(row.Row, 3)), api.ErrNull},
		{"an insert with a cell that is same", frame.Insert, "\x01\x01\x00\x03a\x00\x03c", insert(one, same), api.ErrImage},
		{"an update with an old image of another kind", frame.Update, "\x01\x01\x02\x00\x03a\x00\x03c\x00\x03a\x00\x03c", update(one, image.Full, same, same), api.ErrImage},
		{"a key that stays", frame.Update, "\x01\x01\x01\x06\x03a\x00\x03a\x03b\x03c", update(one, image.Key, of("a", "-", "-"), of("a", "b", "c")), api.ErrKey},
		{"a delete without an old image", frame.Delete, "\x01\x01\x00", gone(one, image.None, nil), api.ErrImage},
		{"a delete by nothing", frame.Delete, "\x02\x01\x01\x01", gone(ref(2, 1), image.Key, of("-")), api.ErrImage},
		{"an update without an old image, by full", frame.Update, "\x01\x02\x00\x00\x03a\x03b", update(ref(1, 2), image.None, nil, of("a", "b")), api.ErrImage},
	} {
		p, e := record.Take(known, x.kind, []byte(x.b), 2)
		if e != api.OK || !equal(p, record.Part{Event: x.want}) {
			t.Errorf("%s: %v, error %d", x.name, p, e)
		}
		// Fields and methods of the event are those of the event in part.
		if p.Kind != x.kind || p.At != x.want.At || p.Right(known) != x.e || !slices.Equal(p.Uses(), x.want.Uses()) || !p.Alike(x.want) {
			t.Errorf("%s: %v, error %d, not %d", x.name, p, p.Right(known), x.e)
		}
		if v, e := p.Fill(nil); e != api.OK || !sample.EqualEvent(v, x.want) {
			t.Errorf("%s: %v, error %d", x.name, v, e)
		}
		taken(t, x.kind, []byte(x.b), 2)
	}
}

func TestP153TakeHoles(t *testing.T) {
	byKey, byFull, byNothing := kinds()
	c := sample.Catalog(byKey, byFull, byNothing)
	hole := func(column, size int) row.Hole { return row.Hole{Column: column, Size: size} }
	for _, x := range []struct {
		name string
		v    event.Event
		want record.Part
	}{
		{"none", insert(byKey.Ref, of3(1, "a", "")), record.Part{Event: insert(byKey.Ref, of3(1, "a", ""))}},
		{"in the new image", insert(byKey.Ref, of3(1, a65, "b")), record.Part{Event: insert(byKey.Ref, of3(1, "", "b")), After: []row.Hole{hole(1, 65)}}},
		{"two in the new image", insert(byKey.Ref, of3(1, b300, c2048)), record.Part{Event: insert(byKey.Ref, of3(1, "", "")), After: []row.Hole{hole(1, 300), hole(2, 2048)}}},
		{"in the old image", gone(byFull.Ref, image.Full, of3(1, "a", b300)), record.Part{Event: gone(byFull.Ref, image.Full, of3(1, "a", "")), Before: []row.Hole{hole(2, 300)}}},
		{"in the old image of an update", update(byFull.Ref, image.Full, of3(1, a65, "b"), of3(2, "a", "b")), record.Part{Event: update(byFull.Ref, image.Full, of3(1, "", "b"), of3(2, "a", "b")), Before: []row.Hole{hole(1, 65)}}},
		{"in both", update(byFull.Ref, image.Full, of3(1, a65, b300), of3(2, "a", c2048)), record.Part{Event: update(byFull.Ref, image.Full, of3(1, "", ""), of3(2, "a", "")), Before: []row.Hole{hole(1, 65), hole(2, 300)}, After: []row.Hole{hole(2, 2048)}}},
		{"in the new one, behind a key image", update(byKey.Ref, image.Key, keyOf(1), of3(2, a65, "b")), record.Part{Event: update(byKey.Ref, image.Key, keyOf(1), of3(2, "", "b")), After: []row.Hole{hole(1, 65)}}},
	} {
		for version := uint8(1); version <= 2; version++ {
			b, l, _ := record.Put(c, x.v, version)
			p, e := record.Take(c, x.v.Kind, b, version)
			if e != api.OK || !equal(p, x.want) {
				t.Errorf("%s in version %d: %v, error %d", x.name, version, p, e)
			}
			if v, e := p.Fill(l); e != api.OK || !sample.EqualEvent(v, x.v) || p.Count() != len(l) {
				t.Errorf("%s in version %d: %v, error %d, %d pieces", x.name, version, v, e, p.Count())
			}
		}
	}
}

// parts are such as there may be, and such as can't be taken.
func parts() []record.Part {
	hole := func(column, size int) row.Hole { return row.Hole{Column: column, Size: size} }
	v := update(ref(300, 2), image.Full, of3(1, "", ""), of3(2, "", "x"))
	return []record.Part{
		{},
		{Event: v},
		{Event: truncate(1, ref(1, 1), ref(2, 2))},
		{Event: v, Before: []row.Hole{hole(1, 65)}},
		{Event: v, After: []row.Hole{hole(1, 256)}},
		{Event: v, Before: []row.Hole{hole(1, 257), hole(2, 65)}, After: []row.Hole{hole(2, 300)}},
		{Event: v, Before: []row.Hole{hole(2, 65), hole(2, 300)}, After: []row.Hole{hole(2, 1), hole(1, 2)}},
		{Event: v, Before: []row.Hole{hole(0, 0), hole(1, 1)}, After: []row.Hole{hole(0, 2048)}},
		{Event: v, Before: []row.Hole{hole(3, 65)}},
		{Event: v, After: []row.Hole{hole(-1, 65)}},
		{Event: v, Before: []row.Hole{hole(3, 65)}, After: []row.Hole{hole(-1, 300)}},
		{Event: v, After: []row.Hole{hole(math.MinInt, 65), hole(math.MaxInt, 65)}},
		{Event: v, Before: []row.Hole{hole(1, -1)}},
		{Event: v, After: []row.Hole{hole(1, 65), hole(2, 2049)}},
		{Event: v, Before: []row.Hole{hole(5, math.MinInt)}, After: []row.Hole{hole(5, 2049)}},
		{Event: event.Event{Kind: 9, Old: 7, Flags: 9}, Before: []row.Hole{hole(0, 65)}},
		{Event: event.Event{Kind: 9, After: of3(1, "", "")}, After: []row.Hole{hole(0, 3)}},
	}
}

func TestP154Count(t *testing.T) {
	for k, want := range []int{0, 0, 0, 1, 1, 5, 5, 9, 1, 1, 3, 2, 0, -1, -1, 1, 1} {
		// Of sizes above 2048 just an end is promised.
		if n := parts()[k].Count(); n != want && want >= 0 {
			t.Errorf("%v: %d pieces, not %d", parts()[k], n, want)
		}
	}
	for n := range 2049 {
		p := record.Part{Before: []row.Hole{{Size: n}}, After: []row.Hole{{Column: 1, Size: 2048 - n}, {Column: 2, Size: n}}}
		if want := (n+255)/256*2 + (2048-n+255)/256; p.Count() != want {
			t.Errorf("of %d bytes: %d pieces, not %d", n, p.Count(), want)
		}
	}
}

func TestP154Fill(t *testing.T) {
	hole := func(column, size int) row.Hole { return row.Hole{Column: column, Size: size} }
	full := update(ref(300, 2), image.Full, of3(1, "", ""), of3(2, "", "x"))
	in := insert(ref(5, 1), of3(7, "", "x"))
	a256, b44 := strings.Repeat("a", 256), strings.Repeat("b", 44)
	two := record.Part{Event: full, Before: []row.Hole{hole(2, 65)}, After: []row.Hole{hole(1, 300)}}
	for _, x := range []struct {
		name   string
		p      record.Part
		pieces []string
		want   event.Event
		e      api.Errno
	}{
		{"no holes", record.Part{Event: in}, nil, in, api.OK},
		{"nothing", record.Part{}, nil, event.Event{}, api.OK},
		{"a truncate", record.Part{Event: truncate(1, ref(1, 1), ref(2, 2))}, nil, truncate(1, ref(1, 1), ref(2, 2)), api.OK},
		{"one", record.Part{Event: in, After: []row.Hole{hole(1, 65)}}, []string{a65}, insert(ref(5, 1), of3(7, a65, "x")), api.OK},
		{"one of two pieces", record.Part{Event: in, After: []row.Hole{hole(1, 300)}}, []string{a256, b44}, insert(ref(5, 1), of3(7, a256+b44, "x")), api.OK},
		{"the old one ahead of the new one", two, []string{a65, a256, b44}, update(ref(300, 2), image.Full, of3(1, "", a65), of3(2, a256+b44, "x")), api.OK},
		{"two of one column", record.Part{Event: in, After: []row.Hole{hole(1, 65), hole(1, 1)}}, []string{a65, "z"}, insert(ref(5, 1), of3(7, "z", "x")), api.OK},
		{"of no bytes", record.Part{Event: in, After: []row.Hole{hole(2, 0)}}, nil, insert(ref(5, 1), of3(7, "", "")), api.OK},

		{"pieces of no holes", record.Part{Event: in}, []string{a65}, event.Event{}, api.ErrSplit},
		{"an empty piece of no holes", record.Part{Event: in}, []string{""}, event.Event{}, api.ErrSplit},
		{"no pieces", two, nil, event.Event{}, api.ErrSplit},
		{"a piece too few", two, []string{a65, a256}, event.Event{}, api.ErrSplit},
		{"a piece too many", two, []string{a65, a256, b44, b44}, event.Event{}, api.ErrSplit},
		{"an empty piece too many", two, []string{a65, a256, b44, ""}, event.Event{}, api.ErrSplit},
		{"a piece too long", two, []string{a65, a256, b44 + "b"}, event.Event{}, api.ErrSplit},
		{"a piece too short", two, []string{a65[1:], a256, b44}, event.Event{}, api.ErrSplit},
		{"pieces parted elsewhere", two, []string{a65, a256[1:], b44 + "a"}, event.Event{}, api.ErrSplit},
		{"pieces in another order", two, []string{a65, b44, a256}, event.Event{}, api.ErrSplit},
		{"the new one ahead of the old one", two, []string{a256, b44, a65}, event.Event{}, api.ErrSplit},
		{"all in one piece", two, []string{a65 + a256 + b44}, event.Event{}, api.ErrSplit},

		{"a size below 0", record.Part{Event: in, After: []row.Hole{hole(1, -1)}}, nil, event.Event{}, api.ErrRange},
		{"a size of 2049", record.Part{Event: in, After: []row.Hole{hole(1, 2049)}}, slices.Repeat([]string{a256}, 9), event.Event{}, api.ErrRange},
		{"a size of 2049 in the old image", record.Part{Event: full, Before: []row.Hole{hole(1, 2049)}, After: []row.Hole{hole(1, 65)}}, []string{a65}, event.Event{}, api.ErrRange},
		{"a column that is not there", record.Part{Event: in, After: []row.Hole{hole(3, 65)}}, []string{a65}, event.Event{}, api.ErrRange},
		{"a column of the old image that is not there", record.Part{Event: in, Before: []row.Hole{hole(0, 65)}}, []string{a65}, event.Event{}, api.ErrRange},
		{"a column of a truncate", record.Part{Event: truncate(0, ref(1, 1)), After: []row.Hole{hole(0, 65)}}, []string{a65}, event.Event{}, api.ErrRange},

		{"pieces ahead of a column", record.Part{Event: in, After: []row.Hole{hole(3, 65)}}, nil, event.Event{}, api.ErrSplit},
		{"the new image's pieces ahead of the old one's column", record.Part{Event: full, Before: []row.Hole{hole(-1, 65)}, After: []row.Hole{hole(1, 65)}}, []string{a65}, event.Event{}, api.ErrSplit},
		{"a size ahead of pieces", record.Part{Event: full, Before: []row.Hole{hole(1, 65)}, After: []row.Hole{hole(1, 2049)}}, nil, event.Event{}, api.ErrRange},
	} {
		v, e := x.p.Fill(x.pieces)
		if e != x.e || !sample.EqualEvent(v, x.want) || e != api.OK && !none(v) {
			t.Errorf("%s: %v, error %d, not %d", x.name, v, e, x.e)
		}
	}
}

func TestP154FillByItsWords(t *testing.T) {
	var lists [][]string
	for _, p := range parts() {
		if l := slices.Concat(p.Before, p.After); !slices.ContainsFunc(l, func(h row.Hole) bool { return h.Size < 0 || h.Size > 3000 }) {
			lists = append(lists, pieces(p))
		}
	}
	found := map[api.Errno]int{}
	for _, p := range parts() {
		for _, l := range lists {
			for _, o := range [][]string{l, append(slices.Clone(l), ""), l[:max(len(l)-1, 0)], slices.Sorted(slices.Values(l))} {
				v, e := p.Fill(o)
				want, err := fillByWords(p, o)
				if e != err || !sample.EqualEvent(v, want) || e != api.OK && !none(v) {
					t.Fatalf("%v of %d pieces: %v, error %d, not %d", p, len(o), v, e, err)
				}
				found[e]++
			}
		}
	}
	for _, e := range []api.Errno{api.OK, api.ErrSplit, api.ErrRange} {
		if found[e] < 10 {
			t.Errorf("error %d is told %d times", e, found[e])
		}
	}
}

func TestP155AsItWas(t *testing.T) {
	for _, v := range events(20) {
		for version := uint8(1); version <= 2; version++ {
			b, l, e := record.Put(known, v, version)
			if e != api.OK {
				t.Fatalf("%v: error %d", v, e)
			}
			p, e := record.Take(known, v.Kind, b, version)
			if e != api.OK || p.Count() != len(l) || p.Kind != v.Kind || len(p.Event.Before.Holes())+len(p.Event.After.Holes()) != 0 {
				t.Fatalf("%v, version %d: %v, error %d", v, version, p, e)
			}
			if !slices.Equal(p.Before, v.Before.Holes()) || !slices.Equal(p.After, v.After.Holes()) {
				t.Fatalf("%v, version %d: holes %v, %v", v, version, p.Before, p.After)
			}
			if o, e := p.Fill(l); e != api.OK || !sample.EqualEvent(o, v) || !o.Alike(v) {
				t.Fatalf("%v, version %d: %v, error %d", v, version, o, e)
			}
			// Pieces that differ fill other events, and by no other lengths any.
			for k := range l {
				other := slices.Clone(l)
				other[k] = strings.Repeat("~", len(l[k]))
				if o, e := p.Fill(other); e != api.OK || o.Alike(v) {
					t.Fatalf("%v, version %d: another piece %d fills the same", v, version, k)
				}
				other[k] += "~"
				if _, e := p.Fill(other); e != api.ErrSplit {
					t.Fatalf("%v, version %d: a longer piece %d: error %d", v, version, k, e)
				}
			}
		}
	}
}

func TestP155FromNoOtherPayload(t *testing.T) {
	for k, v := range events(4) {
		for version := uint8(1); version <= 2; version++ {
			b, _, _ := record.Put(known, v, version)
			taken(t, v.Kind, append(bytes.Clone(b), 0), version)
			taken(t, v.Kind, slices.Concat(b, b), version)
			for kind := uint8(frame.Insert); kind <= frame.Truncate; kind++ {
				taken(t, kind, b, version)
				taken(t, kind, b, 3-version)
			}
			for n := range b {
				if e := taken(t, v.Kind, b[:n], version); e != api.ErrShort {
					t.Fatalf("%v, version %d, cut to %d: error %d", v, version, n, e)
				}
				if (k+n)%5 != 0 && n > 6 {
					continue
				}
				for _, turn := range []byte{1, 2, 3, 64, 128, 255} {
					b[n] ^= turn
					taken(t, v.Kind, b, version)
					b[n] ^= turn
				}
			}
		}
	}
}

func TestR1AnyBytes(t *testing.T) {
	for seed := range uint32(6000) {
		b := sample.Mixed(int(seed%40), seed)
		few := bytes.Clone(b)
		for k := range few {
			few[k] %= 4
		}
		kind := uint8(frame.Insert + seed%4)
		for version := uint8(1); version <= 2; version++ {
			taken(t, kind, b, version)
			taken(t, kind, few, version)
			// Behind a ref that is there.
			taken(t, kind, slices.Concat([]byte{1, 1}, few), version)
			taken(t, kind, slices.Concat([]byte{2, 3}, b), version)
		}
	}
	great := bytes.Repeat([]byte{1}, 1<<20)
	for kind := range 256 {
		if p, e := record.Take(known, uint8(kind), great, 2); e == api.OK || !nothing(p) {
			t.Errorf("kind %d: %v, error %d", kind, p, e)
		}
	}
	both(t, great)
	both(t, bytes.Repeat([]byte{255}, 1<<20))
}

func TestR1AnyEvent(t *testing.T) {
	cells := slices.Concat(sample.WrongCells(value.Text), sample.RightCells(value.Text))
	many := slices.Repeat([]rel.Ref{{}, ref(1, 1)}, 1000)
	for kind := range 256 {
		for _, at := range []rel.Ref{{}, ref(1, 1), ref(1, 2), ref(9, 9)} {
			for _, w := range []row.Row{nil, cells, cells[:3], of(a65, b300, c2048)} {
				for _, v := range []event.Event{
					{Kind: uint8(kind), At: at, Old: uint8(kind % 5), Before: w, After: w},
					{Kind: uint8(kind), At: at, After: w},
					{Kind: uint8(kind), Refs: many, Flags: uint8(kind)},
					{Kind: uint8(kind), Old: image.Key, At: at, Before: w, Refs: many[:1]},
				} {
					b, got, e := record.Put(known, v, 2)
					want, split, err := putByWords(v, 2)
					if e != err || !bytes.Equal(b, want) || !slices.Equal(got, split) {
						t.Fatalf("%v: error %d, not %d", v, e, err)
					}
				}
			}
		}
	}
	for _, p := range parts() {
		p.Event.Before, p.Event.After = cells, nil
		v, e := p.Fill(nil)
		if want, err := fillByWords(p, nil); e != err || !sample.EqualEvent(v, want) {
			t.Fatalf("%v: error %d, not %d", p, e, err)
		}
		p.Count()
		p.Before = slices.Repeat([]row.Hole{{Column: 1, Size: math.MaxInt}, {Column: -1, Size: math.MinInt}}, 100)
		p.Count()
		if v, e := p.Fill(slices.Repeat([]string{"a"}, 1000)); e != api.ErrRange || !none(v) {
			t.Fatalf("%v: error %d", p, e)
		}
	}
}

func TestR3NoneAndEmpty(t *testing.T) {
	v := insert(ref(1, 1), of("a", "b", "c"))
	o := v
	o.Before, o.Refs = row.Row{}, []rel.Ref{}
	b, l, e := record.Put(known, v, 2)
	if p, m, f := record.Put(known, o, 2); !bytes.Equal(b, p) || len(l) != 0 || len(m) != 0 || e != f {
		t.Errorf("%v and %v, errors %d, %d", b, p, e, f)
	}
	g := truncate(0, ref(1, 1))
	g.Before, g.After = row.Row{}, row.Row{}
	if b, _, e := record.Put(known, g, 1); string(b) != "\x00\x01\x01\x01" || e != api.OK {
		t.Errorf("%v, error %d", b, e)
	}
	for _, kind := range []uint8{frame.Insert, frame.Update, frame.Delete, frame.Truncate} {
		if p, e := record.Take(known, kind, []byte{}, 1); e != api.ErrShort || !nothing(p) {
			t.Errorf("%v, error %d", p, e)
		}
	}
	hollow := record.Part{Event: o, Before: []row.Hole{}, After: []row.Hole{}}
	if v, e := hollow.Fill([]string{}); e != api.OK || !v.Alike(insert(ref(1, 1), of("a", "b", "c"))) || hollow.Count() != 0 {
		t.Errorf("%v, error %d", v, e)
	}
}

// spoil changes all that an event's lists have.
func spoil(v event.Event) {
	clear(v.Before)
	clear(v.After)
	clear(v.Refs)
	_, _, _ = append(v.Before, cell.Cell{Kind: 3}), append(v.After, cell.Cell{Kind: 3}), append(v.Refs, rel.Ref{})
}

// examples are an event with large texts in both images, and a truncate, in new memory.
func examples() []event.Event {
	return []event.Event{
		update(ref(1, 2), image.Full, of(a65, b300), of(c2048, "d")),
		truncate(2, ref(1, 1), ref(1, 2), ref(300, 70000)),
		gone(ref(1, 1), image.Key, of(a65, "-", "-")),
		insert(ref(1, 1), of("a", a65, "-")),
	}
}

func TestR4HandedIn(t *testing.T) {
	for k, v := range examples() {
		b, split, _ := record.Put(known, v, 2)
		kept, pieces := bytes.Clone(b), slices.Clone(split)
		p, _ := record.Take(known, v.Kind, b, 2)
		o, e := p.Fill(split)
		if e != api.OK || !sample.EqualEvent(v, examples()[k]) || !bytes.Equal(b, kept) || !slices.Equal(split, pieces) || !known.Same(sample.Catalog(sample.Shapes()...)) {
			t.Fatalf("%v: what is handed in is changed", v)
		}
		// What was handed in is changed afterwards.
		held, _ := record.Take(known, v.Kind, kept, 2)
		spoil(v)
		clear(b)
		clear(split)
		spoil(held.Event)
		clear(held.Before)
		clear(held.After)
		if !sample.EqualEvent(o, examples()[k]) {
			t.Errorf("%v: an answer shares memory with what was handed in", o)
		}
		if q, e := p.Fill(pieces); e != api.OK || !sample.EqualEvent(q, o) {
			t.Errorf("%v: an event in part changed", q)
		}
	}
}

func TestR4HandedOut(t *testing.T) {
	for k, v := range examples() {
		one, ahead, _ := record.Put(known, v, 1)
		two, behind, _ := record.Put(known, v, 1)
		kept, pieces := bytes.Clone(one), slices.Clone(ahead)
		clear(one)
		clear(ahead)
		_, _ = append(one, 9), append(ahead, "z")
		if !bytes.Equal(two, kept) || !slices.Equal(behind, pieces) {
			t.Errorf("%v, %v: two answers share memory", two, behind)
		}
		p, _ := record.Take(known, v.Kind, kept, 1)
		q, _ := record.Take(known, v.Kind, kept, 1)
		first, _ := p.Fill(pieces)
		second, _ := p.Fill(pieces)
		spoil(first)
		if !sample.EqualEvent(second, examples()[k]) || !equal(p, q) {
			t.Errorf("%v, %v: an answer shares memory", second, p)
		}
		spoil(p.Event)
		clear(p.Before)
		clear(p.After)
		if third, e := q.Fill(pieces); e != api.OK || !sample.EqualEvent(third, examples()[k]) || !sample.EqualEvent(second, examples()[k]) {
			t.Errorf("%v, error %d: two answers share memory", third, e)
		}
		if !sample.EqualEvent(v, examples()[k]) || !known.Same(sample.Catalog(sample.Shapes()...)) {
			t.Errorf("%v: what was handed in changed with an answer", v)
		}
	}
	for _, put := range []func() []byte{func() []byte { return record.PutBegin(1, 2) }, func() []byte { return record.PutCommit(1, 2) }} {
		b := put()
		clear(b)
		if string(put()) != "\x01\x02" {
			t.Errorf("%v", put())
		}
	}
}

func TestR4ListsWithRoom(t *testing.T) {
	// Holes and cells may have others behind them, that are not theirs.
	w, after, holes := of3(7, "", "x"), of3(8, "", "y"), []row.Hole{{Column: 1, Size: 65}, {Column: 2, Size: 1}, {Column: 2, Size: 2}}
	p := record.Part{Event: update(ref(300, 2), image.Full, w, after), Before: holes[:1], After: holes[2:]}
	v, e := p.Fill([]string{a65, "zz"})
	if e != api.OK || !sample.EqualEvent(v, update(ref(300, 2), image.Full, of3(7, a65, "x"), of3(8, "", "zz"))) || p.Count() != 2 {
		t.Errorf("%v, error %d", v, e)
	}
	if !sample.EqualRow(w, of3(7, "", "x")) || !sample.EqualRow(after, of3(8, "", "y")) || holes[1] != (row.Hole{Column: 2, Size: 1}) {
		t.Errorf("%v, %v, %v", w, after, holes)
	}
}

func TestR6Again(t *testing.T) {
	c := sample.Catalog(held...)
	v := insert(ref(9, 9), of("a"))
	for range 3 {
		if _, _, e := record.Put(c, v, 2); e != api.ErrMissing {
			t.Errorf("error %d", e)
		}
		if _, e := record.Take(c, frame.Insert, []byte{9, 9, 0, 3, 'a'}, 2); e != api.ErrMissing {
			t.Errorf("error %d", e)
		}
		if b, _, e := record.Put(c, truncate(0, ref(1, 2)), 2); e != api.OK || string(b) != "\x00\x01\x01\x02" {
			t.Errorf("%v, error %d", b, e)
		}
	}
	// What is added to a catalog counts from then on.
	c.Add(sample.At(held[2], 9, 9))
	b, _, e := record.Put(c, v, 2)
	if e != api.OK || string(b) != "\x09\x09\x00\x03a" {
		t.Errorf("%v, error %d", b, e)
	}
	if p, e := record.Take(c, frame.Insert, b, 2); e != api.OK || !sample.EqualEvent(p.Event, v) {
		t.Errorf("%v, error %d", p, e)
	}
}

func TestExamples(t *testing.T) {
	if b := record.PutBegin(5, 300); !bytes.Equal(b, []byte{5, 172, 2}) {
		t.Errorf("%v", b)
	}
	c := sample.Catalog(sample.At(sample.Texts(1, rel.Nothing), 1, 2))
	for version := uint8(1); version <= 2; version++ {
		if b, l, e := record.Put(c, truncate(0, ref(1, 2)), version); e != api.OK || !bytes.Equal(b, []byte{0, 1, 1, 2}) || len(l) != 0 {
			t.Errorf("%v, %v, error %d", b, l, e)
		}
	}
}
