package encode_test

import (
	"bytes"
	"math"
	"slices"
	"strings"
	"testing"

	"lacuna/api"
	"lacuna/catalog"
	"lacuna/encode"
	"lacuna/event"
	"lacuna/fit"
	"lacuna/frame"
	"lacuna/image"
	"lacuna/record"
	"lacuna/rel"
	"lacuna/row"
	"lacuna/sample"
)

// Short names of what is made most often.
var (
	of       = sample.Cells
	ref      = sample.Ref
	insert   = sample.Insert
	update   = sample.Update
	gone     = sample.Delete
	truncate = sample.Truncate
	tx       = sample.Tx
	rels     = sample.Few
	into     = sample.Into
	emptied  = sample.Emptied
	framed   = sample.Framed

	fine = fit.Fault{Tx: -1, Event: -1, Err: api.OK}
)

// fault is one at a place.
func fault(at, event int, e api.Errno) fit.Fault { return fit.Fault{Tx: at, Event: event, Err: e} }

// encoder makes one.
func encoder(t *testing.T, c *catalog.Catalog, version uint8) *encode.Encoder {
	t.Helper()
	x, e := encode.New(c, version)
	if e != api.OK {
		t.Fatalf("no encoder: error %d", e)
	}
	return x
}

// txByWords are a transaction's frames, and what is known then, if some refs are known ahead of it.
func txByWords(c *catalog.Catalog, version uint8, known []rel.Ref, t event.Tx) ([]byte, []rel.Ref) {
	b := framed(version, 1, record.PutBegin(t.Xid, t.Stamp))
	for _, v := range t.Events {
		for _, at := range v.Uses() {
			if slices.Contains(known, at) {
				continue
			}
			r, _ := c.Get(at)
			payload, _ := r.Encode()
			b, known = append(b, framed(version, 2, payload)...), append(known, at)
		}
		payload, pieces, _ := record.Put(c, v, version)
		for _, piece := range pieces {
			b = append(b, framed(version, 3, []byte(piece))...)
		}
		b = append(b, framed(version, v.Kind, payload)...)
	}
	return append(b, framed(version, 8, record.PutCommit(t.Xid, len(t.Events)))...), known
}

// logByWords is the log of a story that fits.
func logByWords(c *catalog.Catalog, version uint8, l []event.Tx) []byte {
	var b, more []byte
	var known []rel.Ref
	for _, t := range l {
		more, known = txByWords(c, version, known, t)
		b = append(b, more...)
	}
	return b
}

// encodeByWords is what P16.2 says that Encode answers.
func encodeByWords(c *catalog.Catalog, version uint8, l []event.Tx) ([]byte, fit.Fault) {
	if version != 1 && version != 2 {
		return nil, fault(-1, -1, api.ErrVersion)
	}
	if f := fit.Check(c, l...); f != fine {
		return nil, f
	}
	return logByWords(c, version, l), fine
}

// frames are those of a log.
func frames(t *testing.T, b []byte) []frame.Frame {
	t.Helper()
	l, whole := sample.Frames(b)
	if !whole {
		t.Fatalf("no log: %v", b)
	}
	return l
}

// names are the kinds of a log's frames.
func names(t *testing.T, b []byte) string {
	t.Helper()
	var l []string
	for _, f := range frames(t, b) {
		l = append(l, frame.Name(f.Kind))
	}
	return strings.Join(l, " ")
}

// story is what a log's frames tell, by the relations that come in it alone; each of these must come once, ahead of what uses it.
func story(t *testing.T, b []byte) ([]event.Tx, *catalog.Catalog) {
	t.Helper()
	c := catalog.New()
	var l []event.Tx
	var open event.Tx
	var pieces []string
	for _, f := range frames(t, b) {
		e := api.OK
		switch f.Kind {
		case frame.Begin:
			open = event.Tx{}
			open.Xid, open.Stamp, e = record.TakeBegin(f.Payload)
		case frame.Relation:
			r, wrong := rel.Decode(f.Payload)
			e = max(wrong, c.Add(r))
		case frame.Piece:
			pieces = append(pieces, string(f.Payload))
		case frame.Commit:
			xid, n, wrong := record.TakeCommit(f.Payload)
			if e = wrong; xid != open.Xid || n != len(open.Events) {
				t.Fatalf("a commit of %d, %d behind a begin of %d, with %d events", xid, n, open.Xid, len(open.Events))
			}
			l = append(l, open)
		default:
			p, wrong := record.Take(c, f.Kind, f.Payload, f.Version)
			v, split := p.Fill(pieces)
			e, pieces = max(wrong, split, v.Right(c)), nil
			open.Events = append(open.Events, v)
		}
		if e != api.OK {
			t.Fatalf("a frame %s: error %d", frame.Name(f.Kind), e)
		}
	}
	return l, c
}

func TestP161New(t *testing.T) {
	c := sample.Catalog(rels(2)...)
	for version := range 256 {
		x, e := encode.New(c, uint8(version))
		if version == 1 || version == 2 {
			if x == nil || e != api.OK || x.Many() != 0 || len(x.Known()) != 0 {
				t.Errorf("version %d: error %d", version, e)
			}
			continue
		}
		if x != nil || e != api.ErrVersion {
			t.Errorf("version %d: error %d", version, e)
		}
	}
}

func TestP161TxFrames(t *testing.T) {
	r := sample.At(sample.Texts(2, rel.Full, 0), 7, 1)
	long := strings.Repeat("x", 300)
	more := strings.Repeat("y", 65)
	c := sample.Catalog(append(rels(3), r)...)
	for _, x := range []struct {
		name string
		t    event.Tx
		want string
	}{
		{"no events", tx(1), "begin commit"},
		{"an insert", tx(1, into(1, "a")), "begin relation insert commit"},
		{"two into one", tx(1, into(1, "a"), into(1, "b")), "begin relation insert insert commit"},
		{"two into two", tx(1, into(2, "a"), into(1, "b")), "begin relation insert relation insert commit"},
		{"two, and the first one again", tx(1, into(2, "a"), into(1, "b"), into(2, "c")), "begin relation insert relation insert insert commit"},
		{"an update", tx(1, update(ref(1, 1), image.None, nil, of("a"))), "begin relation update commit"},
		{"a delete", tx(1, gone(r.Ref, image.Full, of("a", "b"))), "begin relation delete commit"},
		{"a truncate", tx(1, emptied(2)), "begin relation truncate commit"},
		{"a truncate of three", tx(1, emptied(1, 2, 3)), "begin relation relation relation truncate commit"},
		{"a truncate of some that are known", tx(1, into(2, "a"), emptied(1, 2, 3), into(3, "b")), "begin relation insert relation relation truncate insert commit"},
		{"a truncate of what is known", tx(1, into(2, "a"), emptied(2)), "begin relation insert truncate commit"},
		{"a text of two pieces", tx(1, into(1, long)), "begin relation piece piece insert commit"},
		{"a text of one, and one that stands there", tx(1, into(1, more), into(1, "a")), "begin relation piece insert insert commit"},
		{"texts in the old image", tx(1, gone(r.Ref, image.Full, of(long, more))), "begin relation piece piece piece delete commit"},
		{"texts in both images", tx(1, into(1, "a"), update(r.Ref, image.Full, of(more, "a"), of("a", long))), "begin relation insert relation piece piece piece update commit"},
	} {
		for version := uint8(1); version <= 2; version++ {
			b, f := encoder(t, c, version).Tx(x.t)
			if f != fine || names(t, b) != x.want {
				t.Errorf("%s in version %d: %s, %v", x.name, version, names(t, b), f)
			}
			if want, _ := txByWords(c, version, nil, x.t); !bytes.Equal(b, want) {
				t.Errorf("%s in version %d: %v", x.name, version, b)
			}
			for _, o := range frames(t, b) {
				if o.Version != version {
					t.Errorf("%s in version %d: a frame of the version %d", x.name, version, o.Version)
				}
			}
		}
	}
}

func TestP161TxPayloads(t *testing.T) {
	// A story of few frames, byte by byte, but for their sums.
	r := rel.Rel{Ref: ref(5, 1), Name: "t", Identity: rel.Full, Columns: []rel.Column{{Name: "a", Type: 5, Key: true}}}
	c := sample.Catalog(r)
	long, more := strings.Repeat("x", 300), strings.Repeat("y", 65)
	x := encoder(t, c, 2)
	one, f := x.Tx(event.Tx{Xid: 300, Stamp: 7, Events: []event.Event{
		insert(r.Ref, of("ab")),
		update(r.Ref, image.Full, of(long), of(more)),
	}})
	two, g := x.Tx(event.Tx{Xid: 301, Events: []event.Event{truncate(1, r.Ref), gone(r.Ref, image.Full, of(more))}})
	if f != fine || g != fine {
		t.Fatalf("%v, %v", f, g)
	}
	var b []byte
	for _, p := range []struct {
		kind    uint8
		payload string
	}{
		{frame.Begin, "\xac\x02\x07"},
		{frame.Relation, "\x05\x01\x01t\x02\x01\x01a\x85"},
		{frame.Insert, "\x05\x01\x00\x04ab"},
		{frame.Piece, long[:256]},
		{frame.Piece, long[256:]},
		{frame.Piece, more},
		{frame.Update, "\x05\x01\x02\x00\x01\xac\x02\x00\x01\x41"},
		{frame.Commit, "\xac\x02\x02"},
		{frame.Begin, "\xad\x02\x00"},
		{frame.Truncate, "\x01\x01\x05\x01"},
		{frame.Piece, more},
		{frame.Delete, "\x05\x01\x02\x00\x01\x41"},
		{frame.Commit, "\xad\x02\x02"},
	} {
		head := []byte{'L', 'g', 2, p.kind, byte(len(p.payload)), byte(len(p.payload) >> 8)}
		b = append(b, framed(2, p.kind, []byte(p.payload))...)
		if l := b[len(b)-10-len(p.payload):]; !bytes.Equal(l[:6], head) {
			t.Fatalf("%v", l)
		}
	}
	if got := sample.Join(one, two); !bytes.Equal(got, b) {
		t.Errorf("%v, not %v", got, b)
	}
}

func TestP161TxRefused(t *testing.T) {
	c := sample.Catalog(sample.Shapes()...)
	right := insert(ref(1, 1), of("a", "b", "c"))
	missing, kind := insert(ref(9, 9), of("a")), event.Event{}
	many := func(n int, l ...event.Event) []event.Event {
		return slices.Concat(slices.Repeat([]event.Event{right}, n), l)
	}
	for _, x := range []struct {
		name  string
		ahead []uint32
		t     event.Tx
		want  fit.Fault
	}{
		{"the number 0 first", nil, tx(0), fault(0, -1, api.ErrRange)},
		{"the number 0 behind another one", []uint32{1}, tx(0), fault(1, -1, api.ErrOrder)},
		{"the same number", []uint32{3}, tx(3), fault(1, -1, api.ErrOrder)},
		{"the same number behind three", []uint32{1, 2, 3}, tx(3), fault(3, -1, api.ErrOrder)},
		{"a number that falls", []uint32{1, 5}, tx(4), fault(2, -1, api.ErrOrder)},
		{"a number behind the greatest one", []uint32{math.MaxUint32}, tx(math.MaxUint32), fault(1, -1, api.ErrOrder)},
		{"513 events", nil, tx(1, many(513)...), fault(0, -1, api.ErrFull)},
		{"513 events behind two", []uint32{1, 2}, tx(3, many(513)...), fault(2, -1, api.ErrFull)},
		{"the first event", nil, tx(1, kind), fault(0, 0, api.ErrKind)},
		{"the last event", []uint32{1}, tx(2, right, right, missing), fault(1, 2, api.ErrMissing)},
		{"two events", []uint32{1, 2}, tx(3, right, missing, kind), fault(2, 1, api.ErrMissing)},
		{"the 512th event", nil, tx(1, many(511, kind)...), fault(0, 511, api.ErrKind)},

		{"a number ahead of an event", []uint32{2}, tx(2, kind), fault(1, -1, api.ErrOrder)},
		{"a number ahead of 513 events", []uint32{2}, tx(1, many(513)...), fault(1, -1, api.ErrOrder)},
		{"the number 0 ahead of an event", nil, tx(0, kind), fault(0, -1, api.ErrRange)},
		{"the number 0 ahead of 513 events", nil, tx(0, many(513)...), fault(0, -1, api.ErrRange)},
		{"513 events ahead of one of them", nil, tx(1, many(513, kind)...), fault(0, -1, api.ErrFull)},
	} {
		for version := uint8(1); version <= 2; version++ {
			e, plain := encoder(t, c, version), encoder(t, c, version)
			for _, xid := range x.ahead {
				e.Tx(tx(xid, emptied(2)))
				plain.Tx(tx(xid, emptied(2)))
			}
			known := e.Known()
			for range 2 {
				if b, f := e.Tx(x.t); b != nil || f != x.want {
					t.Errorf("%s: %v, not %v", x.name, f, x.want)
				}
			}
			if e.Many() != len(x.ahead) || !slices.Equal(e.Known(), known) {
				t.Errorf("%s: %d encoded, %v known", x.name, e.Many(), e.Known())
			}
			// The next one is as if there had been none.
			next := tx(math.MaxUint32, right, emptied(2))
			b, f := e.Tx(next)
			want, g := plain.Tx(next)
			if !bytes.Equal(b, want) || f != g || e.Many() != plain.Many() || !slices.Equal(e.Known(), plain.Known()) {
				t.Errorf("%s: the next one: %v, not %v", x.name, f, g)
			}
		}
	}
}

func TestP161TxEachError(t *testing.T) {
	c := sample.Catalog(sample.Shapes()...)
	first, right := insert(ref(2, 1), of("a")), insert(ref(1, 1), of("a", "b", "c"))
	for _, w := range sample.WrongEvents() {
		for at := range 3 {
			l := slices.Insert([]event.Event{right, first}, at, w.Event)
			x := encoder(t, c, 1)
			if b, f := x.Tx(tx(1, l...)); b != nil || f != fault(0, at, w.Err) {
				t.Errorf("%s: %v", w.Name, f)
			}
			if x.Many() != 0 || len(x.Known()) != 0 {
				t.Errorf("%s: %d encoded, %v known", w.Name, x.Many(), x.Known())
			}
			x.Tx(tx(7, first))
			if b, f := x.Tx(tx(8, l...)); b != nil || f != fault(1, at, w.Err) {
				t.Errorf("%s: %v", w.Name, f)
			}
			if b, f := x.Tx(tx(7, l...)); b != nil || f != fault(1, -1, api.ErrOrder) {
				t.Errorf("%s: %v", w.Name, f)
			}
			b, f := x.Tx(tx(8, right, first))
			if f != fine || names(t, b) != "begin relation insert insert commit" || x.Many() != 2 || !slices.Equal(x.Known(), []rel.Ref{ref(1, 1), ref(2, 1)}) {
				t.Errorf("%s: %s, %v", w.Name, names(t, b), f)
			}
		}
	}
}

func TestP161ManyAndKnown(t *testing.T) {
	x := encoder(t, sample.Catalog(append(rels(9), sample.At(sample.Texts(1, rel.Nothing), 3, 9))...), 2)
	for k, s := range []struct {
		t     event.Tx
		fine  bool
		known []rel.Ref
		many  int
	}{
		{tx(0, into(1, "a")), false, nil, 0},
		{tx(1), true, nil, 1},
		{tx(2, into(5, "a")), true, []rel.Ref{ref(5, 1)}, 2},
		{tx(2, into(6, "a")), false, []rel.Ref{ref(5, 1)}, 2},
		{tx(3, into(5, "b"), into(7, "b"), into(5, "c")), true, []rel.Ref{ref(5, 1), ref(7, 1)}, 3},
		{tx(4, into(1, "a"), into(12, "b")), false, []rel.Ref{ref(5, 1), ref(7, 1)}, 3},
		{tx(4, emptied(1, 3, 5, 9)), true, []rel.Ref{ref(1, 1), ref(3, 1), ref(5, 1), ref(7, 1), ref(9, 1)}, 4},
		{tx(5), true, []rel.Ref{ref(1, 1), ref(3, 1), ref(5, 1), ref(7, 1), ref(9, 1)}, 5},
		{tx(6, insert(ref(3, 9), of("a"))), true, []rel.Ref{ref(1, 1), ref(3, 1), ref(3, 9), ref(5, 1), ref(7, 1), ref(9, 1)}, 6},
		{tx(9, emptied(1, 2, 3, 4)), true, []rel.Ref{ref(1, 1), ref(2, 1), ref(3, 1), ref(3, 9), ref(4, 1), ref(5, 1), ref(7, 1), ref(9, 1)}, 7},
	} {
		b, f := x.Tx(s.t)
		if (f == fine) != s.fine || (len(b) > 0) != s.fine || x.Many() != s.many || !slices.Equal(x.Known(), s.known) {
			t.Errorf("step %d: %v, %d encoded, %v known", k, f, x.Many(), x.Known())
		}
	}
}

func TestP161AddedAfterwards(t *testing.T) {
	c := catalog.New()
	x := encoder(t, c, 1)
	v := into(1, "a")
	if b, f := x.Tx(tx(1, v)); b != nil || f != fault(0, 0, api.ErrMissing) {
		t.Errorf("%v", f)
	}
	c.Add(rels(1)[0])
	if b, f := x.Tx(tx(1, v)); f != fine || names(t, b) != "begin relation insert commit" {
		t.Errorf("%v", f)
	}
	// A relation behind another one, and one ahead of it.
	if b, f := x.Tx(tx(2, v, insert(ref(1, 2), of("a")))); b != nil || f != fault(1, 1, api.ErrMissing) || x.Many() != 1 {
		t.Errorf("%v", f)
	}
	c.Add(sample.At(rels(1)[0], 1, 2))
	if b, f := x.Tx(tx(2, v, insert(ref(1, 2), of("a")))); f != fine || names(t, b) != "begin insert relation insert commit" {
		t.Errorf("%v", f)
	}
	if !slices.Equal(x.Known(), []rel.Ref{ref(1, 1), ref(1, 2)}) || x.Many() != 2 {
		t.Errorf("%v known", x.Known())
	}
	// Encode takes the catalog as it is.
	if b, f := encode.Encode(c, 1, tx(1, insert(ref(4, 1), of("a")))); b != nil || f != fault(0, 0, api.ErrMissing) {
		t.Errorf("%v", f)
	}
	c.Add(sample.At(rels(1)[0], 4, 1))
	if b, f := encode.Encode(c, 1, tx(1, insert(ref(4, 1), of("a")))); f != fine || names(t, b) != "begin relation insert commit" {
		t.Errorf("%v", f)
	}
}

func TestP162Encode(t *testing.T) {
	c := sample.Catalog(rels(9)...)
	right, kind := into(1, "a"), event.Event{}
	many := func(n int, l ...event.Event) []event.Event {
		return slices.Concat(slices.Repeat([]event.Event{right}, n), l)
	}
	for _, x := range []struct {
		name string
		l    []event.Tx
		want string
		f    fit.Fault
	}{
		{"no transactions", nil, "", fine},
		{"one without events", []event.Tx{tx(5)}, "begin commit", fine},
		{"one", []event.Tx{tx(5, right)}, "begin relation insert commit", fine},
		{"two", []event.Tx{tx(5, right), tx(6, right)}, "begin relation insert commit begin insert commit", fine},
		{"three", []event.Tx{tx(1), tx(2, emptied(1, 2)), tx(math.MaxUint32, into(3, "a"), into(2, "b"))}, "begin commit begin relation relation truncate commit begin relation insert insert commit", fine},
		{"stamps that fall", []event.Tx{{Xid: 1, Stamp: 9}, {Xid: 2, Stamp: 8}}, "begin commit begin commit", fine},

		{"the number 0", []event.Tx{tx(0)}, "", fault(0, -1, api.ErrRange)},
		{"numbers alike", []event.Tx{tx(3), tx(3)}, "", fault(1, -1, api.ErrOrder)},
		{"numbers that fall", []event.Tx{tx(1), tx(3), tx(2)}, "", fault(2, -1, api.ErrOrder)},
		{"the number 0 behind another one", []event.Tx{tx(1), tx(0)}, "", fault(1, -1, api.ErrOrder)},
		{"513 events", []event.Tx{tx(1, right), tx(2, many(513)...)}, "", fault(1, -1, api.ErrFull)},
		{"an event", []event.Tx{tx(1, right), tx(2, right, kind)}, "", fault(1, 1, api.ErrKind)},
		{"a relation that is missing", []event.Tx{tx(1, right, into(10, "a"))}, "", fault(0, 1, api.ErrMissing)},
		{"the last one of many", []event.Tx{tx(1), tx(2), tx(3, right), tx(4, kind)}, "", fault(3, 0, api.ErrKind)},
		{"an event ahead of a number", []event.Tx{tx(1, kind), tx(1)}, "", fault(0, 0, api.ErrKind)},
		{"a number ahead of an event", []event.Tx{tx(2), tx(2, kind)}, "", fault(1, -1, api.ErrOrder)},
	} {
		for version := range uint8(4) {
			b, f := encode.Encode(c, version, x.l...)
			if version != 1 && version != 2 {
				if b != nil || f != fault(-1, -1, api.ErrVersion) {
					t.Errorf("%s in version %d: %v", x.name, version, f)
				}
				continue
			}
			if f != x.f || names(t, b) != x.want || f != fine && b != nil {
				t.Errorf("%s in version %d: %s, %v, not %v", x.name, version, names(t, b), f, x.f)
			}
			if f != fit.Check(c, x.l...) {
				t.Errorf("%s: %v, not %v", x.name, f, fit.Check(c, x.l...))
			}
		}
	}
}

func TestP162EncodeEachFault(t *testing.T) {
	c := sample.Catalog(sample.Shapes()...)
	right := insert(ref(1, 1), of("a", "b", "c"))
	for _, w := range sample.WrongEvents() {
		for place := range 3 {
			for at := range 2 {
				l := []event.Tx{tx(1, right), tx(2), tx(3, emptied(2))}
				l[place].Events = slices.Insert([]event.Event{right}, at, w.Event)
				for _, version := range []uint8{0, 1, 2, 3, 255} {
					want := fault(place, at, w.Err)
					if version != 1 && version != 2 {
						want = fault(-1, -1, api.ErrVersion)
					}
					if b, f := encode.Encode(c, version, l...); b != nil || f != want {
						t.Errorf("%s in version %d: %v, not %v", w.Name, version, f, want)
					}
				}
			}
		}
	}
}

// stories fit Shapes, or are not far from it.
func stories() [][]event.Tx {
	wrong := sample.WrongEvents()
	var l [][]event.Tx
	for seed := range uint32(12) {
		l = append(l, sample.Txs(sample.Shapes(), 12, 1000*seed))
		for _, turn := range []func(o []event.Tx, k int, b []byte){
			func(o []event.Tx, k int, b []byte) { o[k].Xid = o[int(b[0])%len(o)].Xid },
			func(o []event.Tx, k int, b []byte) { o[k].Xid = 0 },
			func(o []event.Tx, k int, b []byte) {
				o[k].Events = slices.Insert(o[k].Events, int(b[1])%(len(o[k].Events)+1), wrong[int(b[2])%len(wrong)].Event)
			},
		} {
			for k := range 12 {
				o := sample.Txs(sample.Shapes(), 12, 1000*seed)
				b := sample.Mixed(6, 50*seed+uint32(k))
				turn(o, k, b)
				l = append(l, slices.Clone(o))
				turn(o, int(b[3])%len(o), b[1:])
				l = append(l, o)
			}
		}
	}
	return l
}

func TestP162ByItsWords(t *testing.T) {
	c, found := sample.Catalog(sample.Shapes()...), map[api.Errno]int{}
	for _, l := range stories() {
		for version := uint8(1); version <= 2; version++ {
			b, f := encode.Encode(c, version, l...)
			want, g := encodeByWords(c, version, l)
			if f != g || !bytes.Equal(b, want) || f != fine && b != nil {
				t.Fatalf("version %d: %v, not %v; %d bytes, not %d", version, f, g, len(b), len(want))
			}
			found[f.Err]++
		}
	}
	for _, e := range []api.Errno{api.OK, api.ErrOrder, api.ErrRange, api.ErrKind, api.ErrForm, api.ErrImage, api.ErrMissing} {
		if found[e] < 10 {
			t.Errorf("error %d is told %d times", e, found[e])
		}
	}
}

func TestP162TellsTheStory(t *testing.T) {
	c := sample.Catalog(sample.Shapes()...)
	for _, l := range stories() {
		if !fit.Fits(c, l...) {
			continue
		}
		for version := uint8(1); version <= 2; version++ {
			b, _ := encode.Encode(c, version, l...)
			got, known := story(t, b)
			if !slices.EqualFunc(got, l, sample.EqualTx) || !known.Same(fit.Only(c, l...)) {
				t.Fatalf("version %d: another story, of %d transactions and %d relations", version, len(got), known.Len())
			}
		}
	}
}

func TestP163Parted(t *testing.T) {
	c := sample.Catalog(sample.Shapes()...)
	for _, l := range stories() {
		if !fit.Fits(c, l...) {
			continue
		}
		for version := uint8(1); version <= 2; version++ {
			all, _ := encode.Encode(c, version, l...)
			for n := range len(l) + 1 {
				// The log of the first ones, and what an encoder that made it tells of the others.
				b, f := encode.Encode(c, version, l[:n]...)
				x := encoder(t, c, version)
				var made []byte
				var known []rel.Ref
				for k, o := range l {
					part, g := x.Tx(o)
					if g != fine || x.Many() != k+1 {
						t.Fatalf("%v, %d encoded", g, x.Many())
					}
					if known = event.Used(l[:k+1]...); !slices.Equal(x.Known(), known) {
						t.Fatalf("%v known, not %v", x.Known(), known)
					}
					if k < n {
						made = append(made, part...)
						continue
					}
					b = append(b, part...)
				}
				if f != fine || !bytes.Equal(b, all) || !bytes.HasPrefix(all, made) {
					t.Fatalf("parted at %d: %v, %d bytes, not %d", n, f, len(b), len(all))
				}
			}
		}
	}
}

func TestP163OneFrameEach(t *testing.T) {
	c := sample.Catalog(sample.Shapes()...)
	for _, l := range stories() {
		if !fit.Fits(c, l...) {
			continue
		}
		b, _ := encode.Encode(c, 1, l...)
		var came []rel.Ref
		for _, f := range frames(t, b) {
			if f.Kind == frame.Relation {
				r, _ := rel.Decode(f.Payload)
				came = append(came, r.Ref)
			}
		}
		slices.SortFunc(came, rel.Ref.Compare)
		if !slices.Equal(came, event.Used(l...)) {
			t.Fatalf("%v, not %v", came, event.Used(l...))
		}
	}
}

func TestP163TwoEncoders(t *testing.T) {
	// By one catalog each knows just what it told itself.
	c := sample.Catalog(rels(3)...)
	one, two := encoder(t, c, 1), encoder(t, c, 1)
	one.Tx(tx(9, into(1, "a"), into(2, "a")))
	b, f := two.Tx(tx(3, into(2, "a")))
	if f != fine || names(t, b) != "begin relation insert commit" || two.Many() != 1 || !slices.Equal(two.Known(), []rel.Ref{ref(2, 1)}) {
		t.Errorf("%s, %v", names(t, b), f)
	}
	b, f = one.Tx(tx(10, into(2, "a")))
	if f != fine || names(t, b) != "begin insert commit" || one.Many() != 2 || len(one.Known()) != 2 {
		t.Errorf("%s, %v", names(t, b), f)
	}
}

func TestR1AnyArguments(t *testing.T) {
	cells := slices.Concat(sample.WrongCells(5), sample.RightCells(2))
	great := slices.Repeat([]rel.Ref{ref(math.MaxUint32, 0), {}, ref(1, 1)}, 3000)
	for _, c := range []*catalog.Catalog{catalog.New(), sample.Catalog(rels(2)...), sample.Catalog(sample.Shapes()...)} {
		x := encoder(t, c, 2)
		for kind := range 256 {
			v := event.Event{Kind: uint8(kind), At: ref(uint32(kind), 1), Old: uint8(kind % 4), Before: cells, After: cells[:1], Refs: great, Flags: uint8(kind)}
			for _, o := range []event.Tx{tx(uint32(kind), v), {Stamp: math.MaxUint64}, tx(5, v, v), tx(math.MaxUint32, slices.Repeat([]event.Event{v}, 600)...)} {
				if b, f := x.Tx(o); b != nil || f == fine || f.Tx != 0 || x.Many() != 0 || len(x.Known()) != 0 {
					t.Fatalf("kind %d: %v", kind, f)
				}
				for version := range uint8(4) {
					b, f := encode.Encode(c, version, o, o)
					if _, g := encodeByWords(c, version, []event.Tx{o, o}); b != nil || f != g {
						t.Fatalf("kind %d, version %d: %v, not %v", kind, version, f, g)
					}
				}
			}
		}
	}
}

func TestR1Great(t *testing.T) {
	// As many relations, events and transactions as there may be.
	l := rels(api.MaxRels)
	c := sample.Catalog(l...)
	var all []event.Event
	for k := range api.MaxEvents {
		all = append(all, into(1+uint32(k*7)%api.MaxRels, strings.Repeat("x", k)))
	}
	txs := []event.Tx{tx(1, all...)}
	for xid := range uint32(3000) {
		txs = append(txs, event.Tx{Xid: xid + 2, Stamp: uint64(xid) << 40, Events: all[xid%300 : xid%300+3]})
	}
	txs = append(txs, event.Tx{Xid: math.MaxUint32, Stamp: math.MaxUint64, Events: all})
	for version := uint8(1); version <= 2; version++ {
		b, f := encode.Encode(c, version, txs...)
		if f != fine || !bytes.Equal(b, logByWords(c, version, txs)) {
			t.Fatalf("version %d: %d bytes, %v", version, len(b), f)
		}
		got, known := story(t, b)
		if !slices.EqualFunc(got, txs, sample.EqualTx) || !known.Same(c) {
			t.Fatalf("version %d: another story", version)
		}
	}
}

func TestR3NoneAndEmpty(t *testing.T) {
	c := sample.Catalog(rels(2)...)
	one, f := encode.Encode(c, 1)
	two, g := encode.Encode(c, 1, []event.Tx{}...)
	if len(one) != 0 || len(two) != 0 || f != fine || g != fine {
		t.Errorf("%v, %v", f, g)
	}
	full := tx(1, into(1, "a"), emptied(1, 2))
	hollow := tx(1, into(1, "a"), emptied(1, 2))
	hollow.Events[0].Before, hollow.Events[0].Refs = row.Row{}, []rel.Ref{}
	hollow.Events[1].Before, hollow.Events[1].After = row.Row{}, row.Row{}
	one, f = encode.Encode(c, 1, full, event.Tx{Xid: 2, Events: []event.Event{}})
	two, g = encode.Encode(c, 1, hollow, tx(2))
	if !bytes.Equal(one, two) || f != fine || g != fine {
		t.Errorf("%v, %v", f, g)
	}
}

func TestR4HandedIn(t *testing.T) {
	c := sample.Catalog(sample.Shapes()...)
	l, kept := sample.Txs(sample.Shapes(), 12, 4), sample.Txs(sample.Shapes(), 12, 4)
	want := logByWords(c, 2, kept)
	b, _ := encode.Encode(c, 2, l...)
	x := encoder(t, c, 2)
	var made []byte
	for k := range l {
		part, _ := x.Tx(l[k])
		made = append(made, part...)
		if !sample.EqualTx(l[k], kept[k]) {
			t.Fatalf("%v: what is handed in is changed", l[k])
		}
		// What was handed in is changed afterwards.
		for _, v := range l[k].Events {
			clear(v.Before)
			clear(v.After)
			clear(v.Refs)
		}
		clear(l[k].Events)
	}
	if !bytes.Equal(b, want) || !bytes.Equal(made, want) || !c.Same(sample.Catalog(sample.Shapes()...)) || !slices.Equal(x.Known(), event.Used(kept...)) {
		t.Error("an answer, or what is kept, changes with what was handed in")
	}
}

func TestR4HandedOut(t *testing.T) {
	c := sample.Catalog(rels(5)...)
	x, plain := encoder(t, c, 1), encoder(t, c, 1)
	for xid, oids := range [][]uint32{{3}, {1, 5}, {2, 3}, {4}} {
		o := tx(uint32(xid)+1, emptied(oids...))
		b, _ := x.Tx(o)
		want, _ := plain.Tx(o)
		if !bytes.Equal(b, want) || !slices.Equal(x.Known(), plain.Known()) {
			t.Fatalf("%v, not %v", b, want)
		}
		// What Tx and Known tell is changed afterwards.
		clear(b)
		_ = append(b, 9)
		known := x.Known()
		clear(known)
		_ = append(known, ref(77, 1))
		other := x.Known()
		slices.Reverse(other)
	}
	if x.Many() != 4 || !slices.Equal(x.Known(), []rel.Ref{ref(1, 1), ref(2, 1), ref(3, 1), ref(4, 1), ref(5, 1)}) {
		t.Errorf("%d, %v", x.Many(), x.Known())
	}
	one, _ := encode.Encode(c, 1, tx(1, into(1, "a")))
	two, _ := encode.Encode(c, 1, tx(1, into(1, "a")))
	clear(one)
	if !bytes.Equal(two, logByWords(c, 1, []event.Tx{tx(1, into(1, "a"))})) {
		t.Error("two answers share memory")
	}
}

func TestR6Again(t *testing.T) {
	c := sample.Catalog(rels(2)...)
	want := logByWords(c, 2, []event.Tx{tx(4, into(2, "a"))})
	for range 3 {
		encode.Encode(c, 2, tx(9, into(1, "a")), tx(8))
		if b, f := encode.Encode(c, 2, tx(4, into(2, "a"))); f != fine || !bytes.Equal(b, want) {
			t.Errorf("%v, %v", b, f)
		}
		if b, f := encoder(t, c, 2).Tx(tx(4, into(2, "a"))); f != fine || !bytes.Equal(b, want) {
			t.Errorf("%v, %v", b, f)
		}
		if b, f := encode.Encode(c, 3, tx(4)); b != nil || f != fault(-1, -1, api.ErrVersion) {
			t.Errorf("%v, %v", b, f)
		}
	}
}

func TestExamples(t *testing.T) {
	b, f := encode.Encode(catalog.New(), 1, event.Tx{Xid: 5})
	begin, _ := frame.Make(frame.Frame{Version: 1, Kind: frame.Begin, Payload: []byte{5, 0}})
	commit, _ := frame.Make(frame.Frame{Version: 1, Kind: frame.Commit, Payload: []byte{5, 0}})
	if f != fine || len(b) != 24 || !bytes.Equal(b, sample.Join(begin, commit)) {
		t.Errorf("%v, %v", b, f)
	}
	// Of the whole: no transactions, two inserts into one relation, a text of 300 bytes, a delete by the identity nothing.
	c := sample.Catalog(rels(1)...)
	if b, f := encode.Encode(c, 2); len(b) != 0 || f != fine {
		t.Errorf("%v, %v", b, f)
	}
	if b, f := encode.Encode(c, 2, tx(1, into(1, "a"), into(1, "b"))); f != fine || names(t, b) != "begin relation insert insert commit" {
		t.Errorf("%s, %v", names(t, b), f)
	}
	b, f = encode.Encode(c, 2, tx(1, into(1, strings.Repeat("x", 300))))
	if l := frames(t, b); f != fine || len(l) != 6 || len(l[2].Payload) != 256 || len(l[3].Payload) != 44 || l[4].Kind != frame.Insert {
		t.Errorf("%s, %v", names(t, b), f)
	}
	if b, f := encode.Encode(c, 2, tx(1, gone(ref(1, 1), image.None, nil))); b != nil || f != fault(0, 0, api.ErrImage) {
		t.Errorf("%v, %v", b, f)
	}
}
