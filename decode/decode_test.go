package decode_test

import (
	"bytes"
	"math"
	"runtime"
	"slices"
	"strings"
	"testing"

	"lacuna/api"
	"lacuna/catalog"
	"lacuna/crc"
	"lacuna/decode"
	"lacuna/encode"
	"lacuna/event"
	"lacuna/fit"
	"lacuna/frame"
	"lacuna/image"
	"lacuna/order"
	"lacuna/record"
	"lacuna/rel"
	"lacuna/row"
	"lacuna/sample"
)

// Short names of what is made most often.
var (
	of      = sample.Cells
	ref     = sample.Ref
	tx      = sample.Tx
	into    = sample.Into
	emptied = sample.Emptied
	framed  = sample.Framed
	join    = sample.Join
)

// Statuses.
func clean(at int) decode.Status { return decode.Status{Kind: decode.Clean, At: uint64(at)} }
func torn(at int) decode.Status  { return decode.Status{Kind: decode.Torn, At: uint64(at)} }
func corrupt(at int, e api.Errno) decode.Status {
	return decode.Status{Kind: decode.Corrupt, At: uint64(at), Err: e}
}

// begin, relation, piece, change and commit are the bytes of frames, of the version 1.
func begin(xid uint32) []byte { return framed(1, frame.Begin, record.PutBegin(xid, 0)) }

func relation(r rel.Rel) []byte {
	b, _ := r.Encode()
	return framed(1, frame.Relation, b)
}

func piece(n int) []byte { return framed(1, frame.Piece, bytes.Repeat([]byte("x"), n)) }

func change(v event.Event) []byte {
	b, _, _ := record.Put(sample.Catalog(sample.Few(9)...), v, 1)
	return framed(1, v.Kind, b)
}

func commit(xid uint32, events int) []byte {
	return framed(1, frame.Commit, record.PutCommit(xid, events))
}

// story is one that fits, with its log.
type story struct {
	c       *catalog.Catalog
	txs     []event.Tx
	version uint8
	log     []byte
	ends    []int // where the commits end, and the beginning, that is no commit's end, but no less clean
}

// written is a story with its log.
func written(t *testing.T, c *catalog.Catalog, version uint8, l ...event.Tx) story {
	t.Helper()
	s := story{c: c, txs: l, version: version, ends: []int{0}}
	x, e := encode.New(c, version)
	for _, o := range l {
		b, f := x.Tx(o)
		if e != api.OK || f.Err != api.OK {
			t.Fatalf("no log: error %d, %v", e, f)
		}
		s.log = append(s.log, b...)
		s.ends = append(s.ends, len(s.log))
	}
	return s
}

// short is a story whose log is short, and has a frame of each kind, pieces, and relations at several places.
func short(t *testing.T, version uint8) story {
	t.Helper()
	byKey, byFull := sample.At(sample.Texts(2, rel.Key, 0), 60, 1), sample.At(sample.Texts(2, rel.Full, 1), 61, 2)
	c := sample.Catalog(append(sample.Few(5), byKey, byFull)...)
	return written(t, c, version,
		tx(3, into(2, "a")),
		tx(4),
		event.Tx{Xid: 300, Stamp: math.MaxUint64, Events: []event.Event{
			into(4, strings.Repeat("x", 70)), into(2, "b"), sample.Update(byFull.Ref, image.Full, of("a", "b"), of(strings.Repeat("y", 260), "c")),
		}},
		tx(301, emptied(1, 2, 4), sample.Insert(byKey.Ref, of("a", "-")), sample.Delete(byKey.Ref, image.Key, of("a", "-"))),
		tx(302, sample.Update(byKey.Ref, image.None, nil, of("a", "=")), sample.Truncate(3, ref(4, 1))),
	)
}

// stories are several, in both versions.
func stories(t *testing.T) []story {
	t.Helper()
	shapes := sample.Shapes()
	c := sample.Catalog(append(shapes, sample.At(shapes[0], 77, 7))...)
	var l []story
	for version := uint8(1); version <= 2; version++ {
		l = append(l, short(t, version), written(t, c, version), written(t, c, version, tx(math.MaxUint32)))
		for seed := range uint32(6) {
			l = append(l, written(t, c, version, sample.Txs(shapes, 6, 700*seed)...))
		}
	}
	return l
}

// at is what a decoder must have of the first n bytes of the log: how many transactions, and its status.
func (s story) at(n int) (int, decode.Status) {
	whole := 0
	for s.ends[whole] < n && whole+1 < len(s.ends) && s.ends[whole+1] <= n {
		whole++
	}
	if s.ends[whole] == n {
		return whole, clean(n)
	}
	return whole, torn(s.ends[whole])
}

// tells holds what is told against the first n transactions of a story, and the status.
func (s story) tells(t *testing.T, n int, want decode.Status, l []event.Tx, c *catalog.Catalog, status decode.Status) {
	t.Helper()
	if status != want || !slices.EqualFunc(l, s.txs[:n], sample.EqualTx) || !c.Same(fit.Only(s.c, s.txs[:n]...)) {
		t.Fatalf("%d transactions, %d relations, %v, not %d, %v", len(l), c.Len(), status, n, want)
	}
}

// words is what a decoder has told, and has, when some bytes came, by the words of the chapter.
type words struct {
	txs                   []event.Tx
	c                     *catalog.Catalog
	version               uint8
	status                decode.Status
	bytes, events, pieces int
}

// byWords is what is so when b came: frame by frame, from its beginning.
func byWords(b []byte) words {
	var w words
	m := order.New()
	at, end := 0, 0
	for {
		f, n, e := frame.Parse(b[at:])
		if e == api.ErrShort {
			break
		}
		var o event.Tx
		whole := false
		if e == api.OK {
			o, whole, e = m.Take(f)
		}
		if e != api.OK {
			w.c, w.version, w.status = m.Catalog(), m.Version(), corrupt(at, e)
			return w
		}
		at += n
		if whole {
			w.txs, end = append(w.txs, o), at
		}
	}
	w.c, w.version, w.status, w.bytes = m.Catalog(), m.Version(), clean(end), len(b)-at
	w.events, _, w.pieces = m.Pending()
	if end < len(b) {
		w.status = torn(end)
	}
	return w
}

// check holds a decoder against the words.
func check(t *testing.T, d *decode.Decoder, w words) {
	t.Helper()
	for range 2 {
		if d.Finish() != w.status || d.Version() != w.version || !d.Catalog().Same(w.c) {
			t.Fatalf("%v, version %d, %d relations, not %v, %d, %d", d.Finish(), d.Version(), d.Catalog().Len(), w.status, w.version, w.c.Len())
		}
		if n, events, pieces := d.Kept(); n != w.bytes || events != w.events || pieces != w.pieces {
			t.Fatalf("%d bytes, %d events, %d pieces are kept, not %d, %d, %d", n, events, pieces, w.bytes, w.events, w.pieces)
		}
	}
}

// fed feeds a new decoder part by part, and holds it against the words after each: what it told in all, and the decoder.
func fed(t *testing.T, parts ...[]byte) ([]event.Tx, *decode.Decoder) {
	t.Helper()
	d := decode.New()
	var came []byte
	var told []event.Tx
	broke := false
	check(t, d, byWords(nil))
	for k, part := range parts {
		came = append(came, part...)
		l, e := d.Feed(part)
		w := byWords(came)
		if broke && len(l) > 0 || e != w.status.Err {
			t.Fatalf("part %d of %d bytes: %d transactions, error %d, not %d", k, len(part), len(l), e, w.status.Err)
		}
		told, broke = append(told, l...), e != api.OK
		if !slices.EqualFunc(told, w.txs, sample.EqualTx) {
			t.Fatalf("part %d of %d bytes: %d transactions up to here, not %d", k, len(part), len(told), len(w.txs))
		}
		check(t, d, w)
	}
	return told, d
}

// whole is what Decode tells, held against the words, and against what a decoder tells that is fed all at once.
func whole(t *testing.T, b []byte) ([]event.Tx, *catalog.Catalog, decode.Status) {
	t.Helper()
	l, c, s := decode.Decode(b)
	w := byWords(b)
	if s != w.status || !c.Same(w.c) || !slices.EqualFunc(l, w.txs, sample.EqualTx) {
		t.Fatalf("%d transactions, %d relations, %v, not %d, %d, %v", len(l), c.Len(), s, len(w.txs), w.c.Len(), w.status)
	}
	told, d := fed(t, b)
	if !slices.EqualFunc(l, told, sample.EqualTx) || !c.Same(d.Catalog()) || s != d.Finish() {
		t.Fatalf("%d transactions, %v, not as a decoder: %d, %v", len(l), s, len(told), d.Finish())
	}
	// What is clean is the log of what was told.
	if s.Kind == decode.Clean && len(b) > 0 {
		if log, f := encode.Encode(c, d.Version(), l...); f.Err != api.OK || !bytes.Equal(log, b) {
			t.Fatalf("%d bytes, %v, not the %d that are clean", len(log), f, len(b))
		}
	}
	return l, c, s
}

func TestP181New(t *testing.T) {
	d := decode.New()
	if d.Finish() != clean(0) || d.Version() != 0 || d.Catalog() == nil || d.Catalog().Len() != 0 {
		t.Errorf("%v, version %d", d.Finish(), d.Version())
	}
	if n, events, pieces := d.Kept(); n != 0 || events != 0 || pieces != 0 {
		t.Errorf("%d bytes, %d events, %d pieces are kept", n, events, pieces)
	}
	for range 3 {
		for _, b := range [][]byte{nil, {}} {
			if l, e := d.Feed(b); l != nil || e != api.OK || d.Finish() != clean(0) {
				t.Errorf("no byte: %v, error %d, %v", l, e, d.Finish())
			}
		}
	}
	if (decode.Clean != 0) || decode.Torn != 1 || decode.Corrupt != 2 {
		t.Error("the kinds of statuses")
	}
}

func TestP181Feed(t *testing.T) {
	for version := uint8(1); version <= 2; version++ {
		s := short(t, version)
		// One transaction a part; all in one part; one byte at a time.
		d := decode.New()
		for k, o := range s.txs {
			l, e := d.Feed(s.log[s.ends[k]:s.ends[k+1]])
			if e != api.OK || len(l) != 1 || !sample.EqualTx(l[0], o) || d.Finish() != clean(s.ends[k+1]) {
				t.Errorf("transaction %d: %d, error %d, %v", k, len(l), e, d.Finish())
			}
		}
		if l, e := decode.New().Feed(s.log); e != api.OK || !slices.EqualFunc(l, s.txs, sample.EqualTx) {
			t.Errorf("%d transactions, error %d", len(l), e)
		}
		d = decode.New()
		for k := range s.log {
			l, e := d.Feed(s.log[k : k+1])
			n, want := s.at(k + 1)
			if e != api.OK || d.Finish() != want || (len(l) == 1) != (want.Kind == decode.Clean) || len(l) == 1 && !sample.EqualTx(l[0], s.txs[n-1]) {
				t.Fatalf("byte %d: %d transactions, error %d, %v, not %v", k, len(l), e, d.Finish(), want)
			}
		}
		told, _ := fed(t, sample.Parts(s.log, 1)...)
		if !slices.EqualFunc(told, s.txs, sample.EqualTx) {
			t.Errorf("%d transactions", len(told))
		}
	}
}

// wrongs are bytes that break a decoder, with the place, and the error; ahead of them stand a number of transactions.
func wrongs(t *testing.T) []struct {
	name string
	b    []byte
	txs  int
	at   int
	e    api.Errno
} {
	t.Helper()
	few := sample.Few(9)
	one := join(begin(5), relation(few[0]), change(into(1, "a")), commit(5, 1))
	two := join(one, begin(6), change(into(1, "b")), commit(6, 1))
	open := join(two, begin(7))
	badSum := slices.Clone(begin(8))
	badSum[len(badSum)-1] ^= 128
	long := []byte{'L', 'g', 1, 4, 1, 16}
	return []struct {
		name string
		b    []byte
		txs  int
		at   int
		e    api.Errno
	}{
		{"a byte that is none of a frame", []byte{0}, 0, 0, api.ErrForm},
		{"a second byte", []byte("LL"), 0, 0, api.ErrForm},
		{"the version 0", []byte("Lg\x00"), 0, 0, api.ErrVersion},
		{"the version 3", join(one, []byte("Lg\x03")), 1, len(one), api.ErrVersion},
		{"the kind 0", join(two, []byte("Lg\x01\x00")), 2, len(two), api.ErrKind},
		{"the kind 9", join(two, []byte("Lg\x01\x09")), 2, len(two), api.ErrKind},
		{"a long payload", join(open, long), 2, len(open), api.ErrLong},
		{"a sum", join(two, badSum), 2, len(two), api.ErrSum},
		{"a sum first", badSum, 0, 0, api.ErrSum},
		{"a sum while one is open", join(open, badSum), 2, len(open), api.ErrSum},
		{"a byte that is none of a frame, behind two", join(two, []byte("x")), 2, len(two), api.ErrForm},

		{"a commit first", commit(5, 0), 0, 0, api.ErrOrder},
		{"a piece first", piece(3), 0, 0, api.ErrOrder},
		{"a relation between", join(one, relation(few[1])), 1, len(one), api.ErrOrder},
		{"an event between", join(two, change(into(1, "a"))), 2, len(two), api.ErrOrder},
		{"a commit once more", join(two, commit(6, 1)), 2, len(two), api.ErrOrder},
		{"a begin while one is open", join(open, begin(8)), 2, len(open), api.ErrOrder},
		{"a number that stays", join(two, begin(6)), 2, len(two), api.ErrOrder},
		{"a number that falls", join(two, begin(1)), 2, len(two), api.ErrOrder},
		{"the number 0", join(two, begin(0)), 2, len(two), api.ErrRange},
		{"another version", join(two, framed(2, frame.Begin, record.PutBegin(7, 0))), 2, len(two), api.ErrVersion},
		{"another version while one is open", join(open, framed(2, frame.Commit, record.PutCommit(7, 0))), 2, len(open), api.ErrVersion},
		{"a relation that is known", join(open, relation(few[0])), 2, len(open), api.ErrExists},
		{"a relation of wrong bytes", join(open, framed(1, frame.Relation, []byte{9})), 2, len(open), api.ErrShort},
		{"a relation that no event uses", join(open, relation(few[1]), commit(7, 0)), 2, len(open) + len(relation(few[1])), api.ErrOrder},
		{"a piece that no event takes", join(open, piece(9), commit(7, 0)), 2, len(open) + len(piece(9)), api.ErrOrder},
		{"a piece of no byte", join(open, piece(0)), 2, len(open), api.ErrSplit},
		{"a piece of 257 bytes", join(open, piece(257)), 2, len(open), api.ErrSplit},
		{"an event without its pieces", join(open, change(into(1, strings.Repeat("x", 99)))), 2, len(open), api.ErrSplit},
		{"an event of what is missing", join(open, change(into(2, "a"))), 2, len(open), api.ErrMissing},
		{"an event of no byte", join(open, framed(1, frame.Insert, nil)), 2, len(open), api.ErrShort},
		{"a truncate of nothing", join(open, framed(1, frame.Truncate, []byte{0, 0})), 2, len(open), api.ErrCount},
		{"a delete by nothing", join(open, framed(1, frame.Delete, []byte{1, 1, 0})), 2, len(open), api.ErrImage},
		{"a commit of another number", join(open, commit(8, 0)), 2, len(open), api.ErrRange},
		{"a commit of other events", join(open, commit(7, 1)), 2, len(open), api.ErrCount},
		{"a commit with a byte more", join(open, framed(1, frame.Commit, []byte{7, 0, 0})), 2, len(open), api.ErrLong},

		{"the machine's ahead of the scanner's", join(open, begin(8), []byte("x")), 2, len(open), api.ErrOrder},
		{"the scanner's ahead of the machine's", join(open, []byte("x"), begin(8)), 2, len(open), api.ErrForm},
		{"the scanner's of a frame that would be wrong, too", join(two, framed(1, 8, []byte{1})[:8], []byte("?????")), 2, len(two), api.ErrSum},
		{"another version, with another kind", join(two, []byte("Lg\x02\x09")), 2, len(two), api.ErrKind},
		{"two that are wrong for the machine", join(open, begin(8), commit(7, 1)), 2, len(open), api.ErrOrder},
		{"a wrong one, and what would be right behind it", join(two, begin(6), begin(7), commit(7, 0)), 2, len(two), api.ErrOrder},
	}
}

func TestP181Breaks(t *testing.T) {
	for _, x := range wrongs(t) {
		// All at once: the transactions ahead are told beside the error.
		d := decode.New()
		l, e := d.Feed(x.b)
		if e != x.e || len(l) != x.txs || d.Finish() != corrupt(x.at, x.e) {
			t.Errorf("%s: %d transactions, error %d, %v, not %d, %d at %d", x.name, len(l), e, d.Finish(), x.txs, x.e, x.at)
		}
		// Each Feed behind it answers nothing, and that error, whatever comes.
		for _, more := range [][]byte{nil, {}, begin(9), commit(9, 0), []byte("xyz"), x.b, join(begin(70), commit(70, 0))} {
			if l, e := d.Feed(more); l != nil || e != x.e || d.Finish() != corrupt(x.at, x.e) {
				t.Errorf("%s, and more: %d transactions, error %d, %v", x.name, len(l), e, d.Finish())
			}
			if n, events, pieces := d.Kept(); n != 0 || events != 0 || pieces != 0 {
				t.Errorf("%s: %d bytes, %d events, %d pieces are kept", x.name, n, events, pieces)
			}
		}
		// In parts, with bytes behind it in the same part, and in others.
		for _, n := range []int{1, 2, 7, 24, 100} {
			told, d := fed(t, append(sample.Parts(x.b, n), begin(9), []byte("x"))...)
			if len(told) != x.txs || d.Finish() != corrupt(x.at, x.e) {
				t.Errorf("%s in parts of %d: %d transactions, %v", x.name, n, len(told), d.Finish())
			}
			fed(t, sample.Parts(join(x.b, begin(9), commit(9, 0)), n)...)
		}
		l, c, s := whole(t, x.b)
		if len(l) != x.txs || s != corrupt(x.at, x.e) || c.Len() != min(x.txs, 1) {
			t.Errorf("%s: Decode: %d transactions, %d relations, %v", x.name, len(l), c.Len(), s)
		}
	}
}

func TestP181SameFeed(t *testing.T) {
	// However many transactions stand ahead of what is wrong: these are told in the Feed in which their last byte comes.
	s := short(t, 1)
	for k := range s.ends {
		b := join(s.log[:s.ends[k]], []byte("x"))
		for ahead := range k + 1 {
			d := decode.New()
			d.Feed(b[:s.ends[ahead]])
			l, e := d.Feed(b[s.ends[ahead]:])
			if e != api.ErrForm || !slices.EqualFunc(l, s.txs[ahead:k], sample.EqualTx) || d.Finish() != corrupt(s.ends[k], api.ErrForm) {
				t.Errorf("%d, and then up to %d: %d transactions, error %d, %v", ahead, k, len(l), e, d.Finish())
			}
		}
	}
}

func TestP181Finish(t *testing.T) {
	// A status can be asked for at any time, and changes nothing.
	for version := uint8(1); version <= 2; version++ {
		s := short(t, version)
		d, often := decode.New(), decode.New()
		for k, part := range sample.Uneven(s.log, 40, 5) {
			l, e := d.Feed(part)
			for range k % 4 {
				often.Finish()
			}
			m, g := often.Feed(part)
			if one, two := often.Finish(), often.Finish(); one != two || e != g || !slices.EqualFunc(l, m, sample.EqualTx) || d.Finish() != one {
				t.Fatalf("part %d: %v, %v, error %d, not %d", k, one, two, g, e)
			}
		}
		d.Feed([]byte("?"))
		if one, two := d.Finish(), d.Finish(); one != two || one != corrupt(len(s.log), api.ErrForm) || one == corrupt(len(s.log), api.ErrSum) || one == corrupt(0, api.ErrForm) || one == torn(len(s.log)) {
			t.Errorf("%v, %v", one, two)
		}
	}
}

func TestP181Torn(t *testing.T) {
	few := sample.Few(2)
	done := join(begin(5), relation(few[0]), change(into(1, "a")), commit(5, 1))
	for _, x := range []struct {
		name string
		b    []byte
		want decode.Status
	}{
		{"no byte", nil, clean(0)},
		{"a byte", []byte("L"), torn(0)},
		{"half a begin", begin(5)[:7], torn(0)},
		{"a begin", begin(5), torn(0)},
		{"a begin and a relation", join(begin(5), relation(few[0])), torn(0)},
		{"a commit without its last byte", done[:len(done)-1], torn(0)},
		{"a commit", done, clean(len(done))},
		{"a commit, and a byte", join(done, []byte("L")), torn(len(done))},
		{"a commit, and a begin", join(done, begin(6)), torn(len(done))},
		{"a commit, and a piece", join(done, begin(6), piece(256)), torn(len(done))},
		{"two commits", join(done, begin(6), commit(6, 0)), clean(len(done) + 24)},
		{"two commits, the last one without a byte", join(done, begin(6), commit(6, 0)[:11]), torn(len(done))},
	} {
		if _, _, s := whole(t, x.b); s != x.want {
			t.Errorf("%s: %v, not %v", x.name, s, x.want)
		}
		for _, n := range []int{1, 5, 12} {
			if _, d := fed(t, sample.Parts(x.b, n)...); d.Finish() != x.want {
				t.Errorf("%s in parts of %d: %v, not %v", x.name, n, d.Finish(), x.want)
			}
		}
	}
}

func TestP182Between(t *testing.T) {
	// Catalog, Version and Kept ahead of parts, between and behind them, written out.
	few := sample.Few(3)
	long, more := strings.Repeat("x", 300), strings.Repeat("x", 70)
	end := len(join(begin(5), relation(few[0]), change(into(1, "a")), change(into(1, "b")), piece(256), piece(44), change(into(1, long)),
		relation(few[1]), piece(70), change(into(2, more)), commit(5, 4)))
	wrong := end + len(join(begin(6), relation(few[2]), change(into(3, "a")), piece(1)))
	d := decode.New()
	for k, x := range []struct {
		part                  []byte
		told, rels            int
		version               uint8
		bytes, events, pieces int
		status                decode.Status
	}{
		{nil, 0, 0, 0, 0, 0, 0, clean(0)},
		{begin(5)[:9], 0, 0, 0, 9, 0, 0, torn(0)},
		{begin(5)[9:], 0, 0, 1, 0, 0, 0, torn(0)},
		{relation(few[0]), 0, 0, 1, 0, 0, 0, torn(0)},
		{join(change(into(1, "a")), change(into(1, "b"))[:5]), 0, 0, 1, 5, 1, 0, torn(0)},
		{change(into(1, "b"))[5:], 0, 0, 1, 0, 2, 0, torn(0)},
		{join(piece(256), piece(44)), 0, 0, 1, 0, 2, 2, torn(0)},
		{change(into(1, long)), 0, 0, 1, 0, 3, 0, torn(0)},
		{join(relation(few[1]), piece(70)[:50]), 0, 0, 1, 50, 3, 0, torn(0)},
		{join(piece(70)[50:], change(into(2, more)), commit(5, 4), begin(6)[:3]), 1, 2, 1, 3, 0, 0, torn(end)},
		{begin(6)[3:], 0, 2, 1, 0, 0, 0, torn(end)},
		{join(relation(few[2]), change(into(3, "a")), piece(1)), 0, 2, 1, 0, 1, 1, torn(end)},
		{join(commit(6, 1), commit(6, 1)), 0, 2, 1, 0, 0, 0, corrupt(wrong, api.ErrOrder)},
		{begin(7), 0, 2, 1, 0, 0, 0, corrupt(wrong, api.ErrOrder)},
	} {
		l, e := d.Feed(x.part)
		n, events, pieces := d.Kept()
		if len(l) != x.told || e != x.status.Err || d.Finish() != x.status || n != x.bytes || events != x.events || pieces != x.pieces {
			t.Errorf("step %d: %d transactions, error %d, %v; %d bytes, %d events, %d pieces are kept", k, len(l), e, d.Finish(), n, events, pieces)
		}
		if d.Version() != x.version || !d.Catalog().Same(sample.Catalog(few[:x.rels]...)) {
			t.Errorf("step %d: version %d, %d relations", k, d.Version(), d.Catalog().Len())
		}
	}
	// The version is that of the first frame that was taken, also of the version 2, and if it breaks at once.
	two := framed(2, frame.Begin, record.PutBegin(5, 0))
	for _, x := range []struct {
		b    []byte
		want uint8
	}{{two, 2}, {two[:11], 0}, {join(two, begin(6)), 2}, {join(begin(6), two), 1}, {commit(5, 0), 0}, {framed(2, frame.Commit, nil), 0}, {[]byte("Lg\x03"), 0}} {
		d := decode.New()
		d.Feed(x.b)
		if d.Version() != x.want || d.Catalog().Len() != 0 {
			t.Errorf("%v: version %d", x.b, d.Version())
		}
	}
}

func TestP182Decode(t *testing.T) {
	for _, s := range stories(t) {
		l, c, status := whole(t, s.log)
		s.tells(t, len(s.txs), clean(len(s.log)), l, c, status)
		if len(s.log) == 0 {
			continue
		}
		l, c, status = whole(t, s.log[:len(s.log)-1])
		s.tells(t, len(s.txs)-1, torn(s.ends[len(s.txs)-1]), l, c, status)
		l, c, status = whole(t, join(s.log, []byte("Lx")))
		s.tells(t, len(s.txs), corrupt(len(s.log), api.ErrForm), l, c, status)
		// Its own log behind it begins with a number that is not above the last one.
		l, c, status = whole(t, join(s.log, s.log))
		s.tells(t, len(s.txs), corrupt(len(s.log), api.ErrOrder), l, c, status)
	}
	for _, b := range [][]byte{nil, {}} {
		if l, c, status := decode.Decode(b); l != nil || c == nil || c.Len() != 0 || status != clean(0) {
			t.Errorf("no byte: %v, %v", l, status)
		}
	}
}

func TestP183Parted(t *testing.T) {
	for _, s := range stories(t) {
		var ways [][][]byte
		for _, n := range []int{1, 2, 3, 9, 10, 11, 64, 300, 4105, 5000} {
			// (A part of one byte at a time of a long log takes long to hold against the words.)
			if len(s.log)/n < 3000 {
				ways = append(ways, sample.Parts(s.log, n))
			}
		}
		for seed := range uint32(4) {
			ways = append(ways, sample.Uneven(s.log, 20+1500*int(seed), seed))
		}
		for _, parts := range ways {
			d := decode.New()
			var told []event.Tx
			for _, part := range parts {
				l, e := d.Feed(part)
				if e != api.OK {
					t.Fatalf("error %d", e)
				}
				told = append(told, l...)
			}
			s.tells(t, len(s.txs), clean(len(s.log)), told, d.Catalog(), d.Finish())
			if len(s.txs) > 0 && d.Version() != s.version {
				t.Fatalf("version %d, not %d", d.Version(), s.version)
			}
			if n, events, pieces := d.Kept(); n != 0 || events != 0 || pieces != 0 {
				t.Fatalf("%d bytes, %d events, %d pieces are kept", n, events, pieces)
			}
		}
		fed(t, sample.Uneven(s.log, 400, 9)...)
	}
}

func TestP183Cut(t *testing.T) {
	for k, s := range stories(t) {
		// A long log is cut at some places, and close to each end of a commit.
		for n := range len(s.log) + 1 {
			near := slices.ContainsFunc(s.ends, func(end int) bool { return n-end < 14 && end-n < 14 })
			if !near && len(s.log) > 2000 && n%29 != k%29 {
				continue
			}
			many, want := s.at(n)
			l, c, status := decode.Decode(s.log[:n])
			s.tells(t, many, want, l, c, status)
		}
	}
}

func TestP183CutAndParted(t *testing.T) {
	for version := uint8(1); version <= 2; version++ {
		s := short(t, version)
		d := decode.New()
		for n := range s.log {
			told, c := fed(t, s.log[:n/2], nil, s.log[n/2:n])
			many, want := s.at(n)
			s.tells(t, many, want, told, c.Catalog(), c.Finish())
			// What was cut may still go on.
			d.Feed(s.log[n : n+1])
		}
		if d.Finish() != clean(len(s.log)) {
			t.Errorf("%v", d.Finish())
		}
	}
}

func TestP183Great(t *testing.T) {
	var all []event.Event
	for n := range uint32(512) {
		all = append(all, into(1+n*7%64, strings.Repeat("x", int(n*4))))
	}
	for version := uint8(1); version <= 2; version++ {
		s := written(t, sample.Catalog(sample.Few(64)...), version, tx(1), tx(2, all...), tx(3, all[:9]...), event.Tx{Xid: math.MaxUint32, Stamp: math.MaxUint64, Events: all})
		for _, n := range []int{100, 4096, 100000, len(s.log)} {
			d := decode.New()
			var told []event.Tx
			for _, part := range sample.Parts(s.log, n) {
				l, e := d.Feed(part)
				if e != api.OK {
					t.Fatalf("error %d", e)
				}
				told = append(told, l...)
				if b, events, pieces := d.Kept(); b > 4105 || events > 512 || pieces > 256 {
					t.Fatalf("%d bytes, %d events, %d pieces are kept", b, events, pieces)
				}
			}
			s.tells(t, 4, clean(len(s.log)), told, d.Catalog(), d.Finish())
		}
	}
}

// turned are a log's bytes behind several turns of frames: others bytes, signed again; frames left out, twice, elsewhere.
func turned(t *testing.T, log []byte, seed uint32) [][]byte {
	t.Helper()
	all, ok := sample.Frames(log)
	if !ok {
		t.Fatal("no log")
	}
	var l [][]byte
	for at, f := range all {
		b := sample.Mixed(5, (seed+uint32(at)*13)*7919)
		var ahead, behind []byte
		for k, o := range all {
			if k < at {
				ahead = append(ahead, framed(o.Version, o.Kind, o.Payload)...)
			}
			if k > at {
				behind = append(behind, framed(o.Version, o.Kind, o.Payload)...)
			}
		}
		own := framed(f.Version, f.Kind, f.Payload)
		payload := slices.Clone(f.Payload)
		if n := len(payload); n > 0 {
			payload[int(b[0])%n] ^= 1 << (b[1] % 8)
		}
		l = append(l,
			join(ahead, behind),
			join(ahead, own, own, behind),
			join(ahead, framed(f.Version, f.Kind, payload), behind),
			join(ahead, framed(f.Version, f.Kind, append(payload, b[2])), behind),
			join(ahead, framed(3-f.Version, f.Kind, f.Payload), behind),
			join(ahead, framed(f.Version, 1+b[3]%8, f.Payload), behind),
			join(behind, ahead),
			join(ahead, own[:int(b[4])%len(own)], behind),
		)
	}
	return l
}

func TestP184Turned(t *testing.T) {
	found := map[api.Errno]int{}
	kinds := map[int]int{}
	for k, s := range stories(t) {
		log := s.log
		if len(s.ends) > 3 {
			log = log[:s.ends[3]]
		}
		for n, b := range turned(t, log, uint32(k)) {
			if len(b) > 12000 && n%5 != 0 {
				continue
			}
			l, c, status := whole(t, b)
			found[status.Err]++
			kinds[status.Kind]++
			for seed, most := range []int{11, 300} {
				if most == 11 && len(b) > 1500 {
					continue
				}
				d := decode.New()
				var told []event.Tx
				for _, part := range sample.Uneven(b, most, uint32(seed+n)) {
					more, _ := d.Feed(part)
					told = append(told, more...)
				}
				if d.Finish() != status || !d.Catalog().Same(c) || !slices.EqualFunc(told, l, sample.EqualTx) {
					t.Fatalf("in parts of up to %d: %d transactions, %v, not %d, %v", most, len(told), d.Finish(), len(l), status)
				}
			}
		}
	}
	for _, e := range []api.Errno{api.OK, api.ErrShort, api.ErrLong, api.ErrForm, api.ErrRange, api.ErrSum, api.ErrExists, api.ErrMissing, api.ErrOrder, api.ErrSplit, api.ErrCount, api.ErrVersion} {
		if found[e] == 0 {
			t.Errorf("error %d is never told", e)
		}
	}
	if kinds[decode.Clean] < 10 || kinds[decode.Torn] < 10 {
		t.Errorf("%d are clean, %d torn", kinds[decode.Clean], kinds[decode.Torn])
	}
}

func TestP184AnyFrames(t *testing.T) {
	// Whole frames in orders that show none, most of them such as a machine takes: what is clean is the log of what was told.
	few := sample.Few(2)
	l := [][]byte{
		begin(5), begin(6), begin(7), commit(5, 0), commit(5, 1), commit(6, 1), commit(6, 2), commit(7, 0), relation(few[0]), relation(few[1]),
		change(into(1, "a")), change(emptied(1, 2)), piece(70), change(into(2, strings.Repeat("x", 70))),
	}
	kinds := map[int]int{}
	for seed := range uint32(600) {
		var b []byte
		m := order.New()
		for _, n := range sample.Mixed(60, seed*7919) {
			o := l[int(n/3)%len(l)]
			f, _, _ := frame.Parse(o)
			if _, _, e := m.Take(f); e == api.OK || n == 255 {
				b = append(b, o...)
			}
		}
		_, _, status := whole(t, b)
		kinds[status.Kind]++
	}
	for kind := range 3 {
		if kinds[kind] < 20 {
			t.Errorf("%d are of the kind %d", kinds[kind], kind)
		}
	}
}

func TestP184AllParts(t *testing.T) {
	// Each way to part a few bytes: a transaction, and one that breaks.
	b := join(begin(5), commit(5, 0))
	var all func(b []byte, parts [][]byte)
	all = func(b []byte, parts [][]byte) {
		if len(b) == 0 {
			fed(t, parts...)
			return
		}
		for n := min(5, len(b)); n <= len(b); n++ {
			all(b[n:], append(slices.Clip(parts), b[:n]))
		}
	}
	all(b, nil)
	all(join(b, begin(5)), nil)
	all(join(b, []byte("Lg\x01\x01x")), nil)
}

// flip turns bits of a byte list, by their numbers from 0 on: of each byte the lowest one first.
func flip(b []byte, bits ...int) []byte {
	b = slices.Clone(b)
	for _, n := range bits {
		b[n/8] ^= 1 << (n % 8)
	}
	return b
}

func TestP185EachBit(t *testing.T) {
	for version := uint8(1); version <= 2; version++ {
		s := short(t, version)
		all, _ := sample.Frames(s.log)
		at := 0
		for _, f := range all {
			size := len(f.Payload) + 10
			many, _ := s.at(at)
			// Of a long payload some bits; of each frame those around its beginning, its end, and the sum.
			for n := (at + 6) * 8; n < (at+size)*8; n++ {
				if inside := n - (at+6)*8; len(f.Payload) > 60 && inside > 40 && n < (at+size-8)*8 && n%23 != 0 {
					continue
				}
				l, c, status := decode.Decode(flip(s.log, n))
				s.tells(t, many, corrupt(at, api.ErrSum), l, c, status)
			}
			at += size
		}
	}
}

func TestP185Within32(t *testing.T) {
	for version := uint8(1); version <= 2; version++ {
		s := short(t, version)
		all, _ := sample.Frames(s.log)
		at := 0
		for k, f := range all {
			size := len(f.Payload) + 10
			many, _ := s.at(at)
			first, end := (at+6)*8, (at+size)*8
			for seed := range uint32(60) {
				b := sample.Mixed(8, (seed*77+uint32(k))*7919)
				// From where the 32 bits begin: anywhere, or over the payload's end and the sum.
				from := first + (int(b[0])|int(b[1])<<8)%(end-first)
				if seed%2 == 0 {
					from = max(first, end-32-int(b[2]%32))
				}
				bits := []int{from}
				for n := 1; n < 32 && from+n < end; n++ {
					if b[4+n/8]>>(n%8)&1 == 1 {
						bits = append(bits, from+n)
					}
				}
				bad := flip(s.log, bits...)
				l, c, status := decode.Decode(bad)
				s.tells(t, many, corrupt(at, api.ErrSum), l, c, status)
				if seed > 3 {
					continue
				}
				told, d := fed(t, sample.Uneven(bad, 200, seed)...)
				s.tells(t, many, corrupt(at, api.ErrSum), told, d.Catalog(), d.Finish())
			}
			at += size
		}
	}
}

func TestP185OfStories(t *testing.T) {
	for n, s := range stories(t) {
		all, _ := sample.Frames(s.log)
		at := 0
		for k, f := range all {
			size := len(f.Payload) + 10
			if many, _ := s.at(at); k%7 == n%7 || k+1 == len(all) {
				b := sample.Mixed(2, uint32(at))
				from := (at+6)*8 + (int(b[0])|int(b[1])<<8)%((size-6)*8-31)
				l, c, status := decode.Decode(flip(s.log, from, from+int(b[0]%30)+1, from+31))
				s.tells(t, many, corrupt(at, api.ErrSum), l, c, status)
			}
			at += size
		}
	}
}

func TestR1AnyBytes(t *testing.T) {
	one := join(begin(5), commit(5, 0))
	for n := range 1 << 16 {
		b := []byte{byte(n), byte(n >> 8)}
		if n%7 == 0 {
			fed(t, b)
		}
		if n%31 == 0 {
			fed(t, join(one, b), one)
			fed(t, []byte("Lg\x01"), b, one)
		}
	}
	for seed := range uint32(1500) {
		b := sample.Mixed(int(seed%60), seed*7919)
		whole(t, b)
		fed(t, sample.Uneven(b, 5, seed)...)
		fed(t, sample.Uneven(join(one, b, one), 9, seed)...)
		fed(t, sample.Uneven(join([]byte("Lg\x02\x04\x05\x00"), b), 9, seed)...)
		// Whole frames of any payload.
		fed(t, begin(5), framed(1, 1+uint8(seed%8), b), framed(1, 1+uint8(seed/8%8), b))
		whole(t, join(one, framed(1, 1+uint8(seed%8), b)))
	}
	for _, n := range []int{4096, 100000} {
		whole(t, sample.Mixed(n, 3))
		whole(t, make([]byte, n))
		whole(t, bytes.Repeat([]byte("Lg"), n))
	}
}

func TestR3NilAndEmpty(t *testing.T) {
	s := short(t, 2)
	for n := range len(s.log) / 7 {
		fed(t, nil, s.log[:n], []byte{}, nil, s.log[n:2*n], nil)
	}
	fed(t, nil, []byte{}, []byte("x"), nil, []byte{})
}

func TestR4Parts(t *testing.T) {
	// A part is changed as soon as it was fed, and used for the next one.
	for _, s := range stories(t) {
		for _, n := range []int{7, 100, 3000} {
			d := decode.New()
			room := make([]byte, n)
			var told []event.Tx
			for _, part := range sample.Parts(s.log, n) {
				b := room[:copy(room, part)]
				l, e := d.Feed(b)
				if e != api.OK || !bytes.Equal(b, part) {
					t.Fatalf("error %d, or the part is changed", e)
				}
				told = append(told, l...)
				clear(room)
			}
			s.tells(t, len(s.txs), clean(len(s.log)), told, d.Catalog(), d.Finish())
		}
		b := slices.Clone(s.log)
		l, c, status := decode.Decode(b)
		if !bytes.Equal(b, s.log) {
			t.Fatal("what is decoded is changed")
		}
		clear(b)
		s.tells(t, len(s.txs), clean(len(s.log)), l, c, status)
	}
}

// spoil changes what was told, and a catalog.
func spoil(l []event.Tx, c *catalog.Catalog) {
	for _, o := range l {
		for _, v := range o.Events {
			clear(v.Before)
			clear(v.After)
			clear(v.Refs)
		}
		clear(o.Events)
		_ = append(o.Events, event.Event{Kind: 9})
	}
	clear(l)
	_ = append(l, event.Tx{Xid: 77})
	for _, r := range c.All() {
		clear(r.Columns)
	}
	for c.Len() < 64 {
		c.Add(sample.At(sample.Few(1)[0], 1000, uint32(c.Len())+1))
	}
}

func TestR4Answers(t *testing.T) {
	for _, s := range stories(t) {
		for _, n := range []int{50, 1000, 100000} {
			d := decode.New()
			at := 0
			for _, part := range sample.Parts(s.log, n) {
				l, e := d.Feed(part)
				if e != api.OK || !slices.EqualFunc(l, s.txs[at:at+len(l)], sample.EqualTx) {
					t.Fatalf("behind transaction %d: error %d, or others", at, e)
				}
				at += len(l)
				spoil(l, d.Catalog())
				if !d.Catalog().Same(fit.Only(s.c, s.txs[:at]...)) {
					t.Fatalf("behind transaction %d: a catalog changes what is kept", at)
				}
			}
		}
		one, c, _ := decode.Decode(s.log)
		two, g, status := decode.Decode(s.log)
		spoil(one, c)
		s.tells(t, len(s.txs), clean(len(s.log)), two, g, status)
	}
}

func TestR6TwoDecoders(t *testing.T) {
	s, o := short(t, 1), short(t, 2)
	one, two, broken := decode.New(), decode.New(), decode.New()
	var told, other []event.Tx
	for k := range max(len(s.log), len(o.log)) {
		if k < len(s.log) {
			l, _ := one.Feed(s.log[k : k+1])
			told = append(told, l...)
		}
		if k < len(o.log) {
			l, _ := two.Feed(o.log[k : k+1])
			other = append(other, l...)
		}
		broken.Feed([]byte{byte(k)})
	}
	s.tells(t, len(s.txs), clean(len(s.log)), told, one.Catalog(), one.Finish())
	o.tells(t, len(o.txs), clean(len(o.log)), other, two.Catalog(), two.Finish())
	if broken.Finish() != corrupt(0, api.ErrForm) {
		t.Errorf("%v", broken.Finish())
	}
}

// heap is how many bytes are in use.
func heap() uint64 {
	var m runtime.MemStats
	runtime.GC()
	runtime.GC()
	runtime.ReadMemStats(&m)
	return m.HeapAlloc
}

func TestP3Keeps(t *testing.T) {
	// Of a long log no more is kept than a frame, and one transaction.
	l := []event.Tx{tx(1, emptied(1))}
	for xid := range uint32(100) {
		l = append(l, tx(xid+2, into(1, strings.Repeat("x", 2000)), into(1, strings.Repeat("y", 2000))))
	}
	s := written(t, sample.Catalog(sample.Few(1)...), 2, l...)
	decoders := make([]*decode.Decoder, 100)
	ahead := heap()
	for k := range decoders {
		decoders[k] = decode.New()
		if told, e := decoders[k].Feed(s.log[:len(s.log)-1]); len(told) != 100 || e != api.OK {
			t.Fatalf("%d transactions, error %d", len(told), e)
		}
	}
	if now := heap(); now > ahead+100*30000 {
		t.Errorf("%d bytes for 100 decoders that have about 10000 to keep", now-ahead)
	}
	for _, d := range decoders {
		if told, e := d.Feed(s.log[len(s.log)-1:]); len(told) != 1 || e != api.OK {
			t.Fatalf("%d transactions, error %d", len(told), e)
		}
		// It breaks at a frame that is whole, and there is part of another one behind it.
		if _, e := d.Feed(join(framed(2, frame.Begin, record.PutBegin(1, 0)), s.log[:4000])); e != api.ErrOrder {
			t.Fatalf("error %d", e)
		}
	}
	if now := heap(); now > ahead+100*3000 {
		t.Errorf("%d bytes for 100 decoders that broke", now-ahead)
	}
	runtime.KeepAlive(decoders)
	runtime.KeepAlive(s)
}

func TestExamples(t *testing.T) {
	for _, x := range []struct {
		b    []byte
		want decode.Status
	}{{nil, clean(0)}, {[]byte{76}, torn(0)}, {[]byte{0}, corrupt(0, api.ErrForm)}} {
		if l, c, s := decode.Decode(x.b); len(l) != 0 || c.Len() != 0 || s != x.want {
			t.Errorf("%v: %d transactions, %v", x.b, len(l), s)
		}
	}
	// Of the whole: no transaction; one without events; without its last byte; a bit turned; another version; a relation
	// that no event uses; numbers bit by bit.
	five := join(crc.Sign([]byte{76, 103, 1, 1, 2, 0, 5, 0}), crc.Sign([]byte{76, 103, 1, 8, 2, 0, 5, 0}))
	l, _, s := decode.Decode(five)
	if len(five) != 24 || s != clean(24) || len(l) != 1 || !sample.EqualTx(l[0], tx(5)) {
		t.Errorf("%v, %v", l, s)
	}
	two := join(five, begin(6), commit(6, 0))
	for _, x := range []struct {
		b    []byte
		txs  int
		want decode.Status
	}{
		{two[:47], 1, torn(24)},
		{flip(two, 42*8), 1, corrupt(36, api.ErrSum)},
		{join(framed(2, frame.Begin, []byte{5, 0}), framed(2, frame.Commit, []byte{5, 0}), begin(6)), 1, corrupt(24, api.ErrVersion)},
		{join(five, begin(6), relation(sample.Few(1)[0]), commit(6, 0)), 1, corrupt(36+len(relation(sample.Few(1)[0])), api.ErrOrder)},
	} {
		if l, _, s := decode.Decode(x.b); len(l) != x.txs || s != x.want {
			t.Errorf("%v: %d transactions, %v, not %v", x.b, len(l), s, x.want)
		}
	}
	r := sample.At(sample.Rel(3, 4), 9, 1)
	v := sample.Insert(r.Ref, row.Row{sample.Float(math.Copysign(0, -1)), sample.Complex(complex(math.Float64frombits(0x7FF8000000000001), math.Copysign(0, -1)))})
	story := written(t, sample.Catalog(r), 2, tx(1, v))
	l, c, s := decode.Decode(story.log)
	story.tells(t, 1, clean(len(story.log)), l, c, s)
}
