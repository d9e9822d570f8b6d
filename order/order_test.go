package order_test

import (
	"bytes"
	"math"
	"slices"
	"strings"
	"testing"

	"lacuna/api"
	"lacuna/catalog"
	"lacuna/encode"
	"lacuna/event"
	"lacuna/fit"
	"lacuna/frame"
	"lacuna/image"
	"lacuna/order"
	"lacuna/prim"
	"lacuna/record"
	"lacuna/rel"
	"lacuna/row"
	"lacuna/sample"
	"lacuna/value"
)

// Short names of what is made most often.
var (
	of       = sample.Cells
	ref      = sample.Ref
	insert   = sample.Insert
	update   = sample.Update
	gone     = sample.Delete
	truncate = sample.Truncate
	emptied  = sample.Emptied
)

// few are relations of a text; the frames of most tests are of these.
var few = sample.Few(80)

// maker makes frames of a version.
type maker uint8

// of is a frame of a kind.
func (k maker) of(kind uint8, payload ...byte) frame.Frame {
	return frame.Frame{Version: uint8(k), Kind: kind, Payload: payload}
}

func (k maker) begin(xid uint32) frame.Frame {
	return k.of(frame.Begin, record.PutBegin(xid, 7)...)
}

func (k maker) commit(xid uint32, events int) frame.Frame {
	return k.of(frame.Commit, record.PutCommit(xid, events)...)
}

func (k maker) relation(r rel.Rel) frame.Frame {
	b, _ := r.Encode()
	return k.of(frame.Relation, b...)
}

// few is the frame of one of few.
func (k maker) few(oid uint32) frame.Frame { return k.relation(few[oid-1]) }

// piece is one of n bytes.
func (k maker) piece(n int) frame.Frame {
	return k.of(frame.Piece, bytes.Repeat([]byte("x"), n)...)
}

// event is the frame of an event that need not be right, as long as its rows fit the relation.
func (k maker) event(r rel.Rel, v event.Event) frame.Frame {
	put := func(b []byte, at rel.Ref) []byte {
		return prim.PutUint(prim.PutUint(b, uint64(at.Oid)), uint64(at.Version))
	}
	if v.Kind == frame.Truncate {
		b := prim.PutUint([]byte{v.Flags}, uint64(len(v.Refs)))
		for _, at := range v.Refs {
			b = put(b, at)
		}
		return k.of(v.Kind, b...)
	}
	b := put(nil, v.At)
	if v.Kind != frame.Insert {
		b = append(b, v.Old)
	}
	for _, w := range []row.Row{v.Before, v.After} {
		if len(w) > 0 {
			l, _ := w.Encode(r, uint8(k))
			b = append(b, l...)
		}
	}
	return k.of(v.Kind, b...)
}

// into is an insert of a text of n bytes into one of few.
func (k maker) into(oid uint32, n int) frame.Frame {
	return k.event(few[oid-1], sample.Into(oid, strings.Repeat("x", n)))
}

// emptied is a truncate of some of few.
func (k maker) emptied(oids ...uint32) frame.Frame { return k.event(rel.Rel{}, emptied(oids...)) }

// state is what a machine has, by the words of the chapter. It is a value: a state that another one was made of stays.
type state struct {
	version uint8
	last    uint32
	rels    []rel.Rel // of what was committed
	open    bool
	tx      event.Tx
	came    []rel.Rel // in the open one
	pieces  []string
}

// fresh are the relations that no event of the open one uses.
func (s state) fresh() []rel.Ref {
	var l []rel.Ref
	for _, r := range s.came {
		if !slices.Contains(event.Used(s.tx), r.Ref) {
			l = append(l, r.Ref)
		}
	}
	return l
}

// first is the first error of some that is one.
func first(l ...api.Errno) api.Errno {
	for _, e := range l {
		if e != api.OK {
			return e
		}
	}
	return api.OK
}

// when is an error, if something is so.
func when(so bool, e api.Errno) api.Errno {
	if so {
		return e
	}
	return api.OK
}

// event is that of a frame, and what is wrong with it: as the table's row, without its first two errors.
func (s state) event(f frame.Frame) (event.Event, api.Errno) {
	all := sample.Catalog(slices.Concat(s.rels, s.came)...)
	p, taken := record.Take(all, f.Kind, f.Payload, f.Version)
	v, filled := p.Fill(s.pieces)
	var used []rel.Ref
	for _, at := range v.Uses() {
		if slices.Contains(s.fresh(), at) {
			used = append(used, at)
		}
	}
	slices.SortFunc(used, rel.Ref.Compare)
	return v, first(taken, filled, v.Right(all), when(!slices.Equal(used, s.fresh()), api.ErrOrder))
}

// wrong is what is wrong with a frame: the table, row by row.
func (s state) wrong(f frame.Frame) api.Errno {
	if e := first(frame.Right(f), when(s.version != 0 && f.Version != s.version, api.ErrVersion)); e != api.OK {
		return e
	}
	left := len(s.pieces) > 0
	switch f.Kind {
	case 1:
		xid, _, e := record.TakeBegin(f.Payload)
		return first(when(s.open, api.ErrOrder), e, when(s.last > 0 && xid <= s.last, api.ErrOrder))
	case 2:
		r, e := rel.Decode(f.Payload)
		all := slices.Concat(s.rels, s.came)
		there := slices.ContainsFunc(all, func(o rel.Rel) bool { return o.Ref == r.Ref })
		return first(when(!s.open || left, api.ErrOrder), e, when(there, api.ErrExists), when(len(all) >= 64, api.ErrFull))
	case 3:
		n := len(f.Payload)
		return first(when(!s.open, api.ErrOrder), when(n < 1 || n > 256 || len(s.pieces) >= 256, api.ErrSplit))
	case 8:
		xid, n, e := record.TakeCommit(f.Payload)
		return first(when(!s.open || left || len(s.fresh()) > 0, api.ErrOrder), e,
			when(xid != s.tx.Xid, api.ErrRange), when(n != len(s.tx.Events), api.ErrCount))
	}
	if e := first(when(!s.open, api.ErrOrder), when(len(s.tx.Events) >= 512, api.ErrFull)); e != api.OK {
		return e
	}
	_, e := s.event(f)
	return e
}

// take is the state behind a frame, and what Take must answer.
func (s state) take(f frame.Frame) (state, event.Tx, bool, api.Errno) {
	if e := s.wrong(f); e != api.OK {
		return s, event.Tx{}, false, e
	}
	s.version = f.Version
	switch f.Kind {
	case 1:
		s.open = true
		s.tx.Xid, s.tx.Stamp, _ = record.TakeBegin(f.Payload)
	case 2:
		r, _ := rel.Decode(f.Payload)
		s.came = slices.Concat(s.came, []rel.Rel{r})
	case 3:
		s.pieces = slices.Concat(s.pieces, []string{string(f.Payload)})
	case 8:
		t := s.tx
		return state{version: s.version, last: t.Xid, rels: slices.Concat(s.rels, s.came)}, t, true, api.OK
	default:
		v, _ := s.event(f)
		s.tx.Events, s.pieces = slices.Concat(s.tx.Events, []event.Event{v}), nil
	}
	return s, event.Tx{}, false, api.OK
}

// held is a machine that is held against the words.
type held struct {
	*testing.T
	m    *order.Machine
	s    state
	rels *catalog.Catalog // those of s
	took []frame.Frame    // what it took
	told []event.Tx       // what it told
}

// start is a machine that took some frames.
func start(t *testing.T, l ...frame.Frame) *held {
	t.Helper()
	h := &held{T: t, m: order.New(), rels: catalog.New()}
	for k, f := range l {
		if e := h.take(f); e != api.OK {
			t.Fatalf("frame %d, a %s: error %d", k, frame.Name(f.Kind), e)
		}
	}
	return h
}

// take gives a frame to the machine, and holds what it answers, and what it has then, against the words.
func (h *held) take(f frame.Frame) api.Errno {
	h.Helper()
	next, want, whole, err := h.s.take(f)
	t, done, e := h.m.Take(f)
	if e != err || done != whole || !sample.EqualTx(t, want) || !done && t.Events != nil {
		h.Fatalf("a %s, version %d: %v, %v, error %d, not %v, %v, %d", frame.Name(f.Kind), f.Version, t, done, e, want, whole, err)
	}
	h.s = next
	if e == api.OK {
		h.took = append(h.took, f)
	}
	if done {
		h.told, h.rels = append(h.told, t), sample.Catalog(next.rels...)
	}
	h.check()
	return e
}

// check holds what it has against the words.
func (h *held) check() {
	h.Helper()
	if h.m.Open() != h.s.open || h.m.Version() != h.s.version || h.m.Last() != h.s.last {
		h.Fatalf("open %v, version %d, last %d, not %v, %d, %d", h.m.Open(), h.m.Version(), h.m.Last(), h.s.open, h.s.version, h.s.last)
	}
	if events, fresh, pieces := h.m.Pending(); events != len(h.s.tx.Events) || fresh != len(h.s.fresh()) || pieces != len(h.s.pieces) {
		h.Fatalf("%d events, %d fresh, %d pieces, not %d, %d, %d", events, fresh, pieces, len(h.s.tx.Events), len(h.s.fresh()), len(h.s.pieces))
	}
	if c := h.m.Catalog(); !c.Same(h.rels) {
		h.Fatalf("%d relations, not %d", c.Len(), h.rels.Len())
	}
}

// isLog: are the frames that it took, up to the last commit, the log of what it told?
func (h *held) isLog() {
	h.Helper()
	var b, upTo []byte
	for _, f := range h.took {
		b = append(b, sample.Framed(f.Version, f.Kind, f.Payload)...)
		if f.Kind == frame.Commit {
			upTo = b
		}
	}
	if len(h.told) == 0 {
		return
	}
	if log, f := encode.Encode(h.m.Catalog(), h.m.Version(), h.told...); f.Err != api.OK || !bytes.Equal(log, upTo) {
		h.Fatalf("%d bytes, %v, not %d, of %d transactions", len(log), f, len(upTo), len(h.told))
	}
}

// try is a frame, what comes ahead of it, and what is wrong with it.
type try struct {
	name  string
	ahead []frame.Frame
	f     frame.Frame
	want  api.Errno
}

// frames are frames.
func frames(l ...frame.Frame) []frame.Frame { return l }

// tries holds machines of both versions against what is told of frames; behind each some more come, some of which are right.
func tries(t *testing.T, l func(k maker) []try) {
	t.Helper()
	for k := maker(1); k <= 2; k++ {
		for _, x := range l(k) {
			h := start(t, x.ahead...)
			for range 2 {
				e := h.take(x.f)
				if e != x.want {
					t.Errorf("%s, version %d: error %d, not %d", x.name, k, e, x.want)
				}
				if e == api.OK {
					break
				}
			}
			for _, f := range probes(k) {
				h.take(f)
			}
			h.isLog()
		}
	}
}

// probes are frames of which some are right, whatever stands ahead of them.
func probes(k maker) []frame.Frame {
	return frames(
		k.begin(70), k.commit(7, 0), k.few(79), k.into(79, 5), k.emptied(1), k.emptied(2), k.into(2, 100), k.into(1, 100),
		k.emptied(2, 3), k.commit(7, 0), k.commit(7, 1), k.commit(7, 2), k.begin(70), k.few(78), k.piece(256), k.piece(44), k.into(78, 300),
		k.commit(70, 1), k.commit(70, 0), k.commit(70, 2),
	)
}

func TestP171New(t *testing.T) {
	h := start(t)
	h.check()
	if h.m == order.New() || h.m.Open() || h.m.Version() != 0 || h.m.Last() != 0 || h.m.Catalog().Len() != 0 {
		t.Error("a new machine has something")
	}
	if events, fresh, pieces := h.m.Pending(); events != 0 || fresh != 0 || pieces != 0 {
		t.Errorf("a new machine has %d events, %d fresh, %d pieces", events, fresh, pieces)
	}
}

// places are the frames that bring a machine to where the frames of each kind are told apart.
func places(k maker) map[string][]frame.Frame {
	done := frames(k.begin(5), k.few(1), k.into(1, 3), k.commit(5, 1))
	open := append(slices.Clip(done), k.begin(7))
	busy := append(slices.Clip(open), k.into(1, 3))
	fresh := append(slices.Clip(open), k.few(2))
	return map[string][]frame.Frame{
		"new":    nil,
		"done":   done,
		"open":   open,
		"busy":   busy,
		"pieces": append(slices.Clip(busy), k.piece(100)),
		"fresh":  fresh,
		"both":   append(slices.Clip(fresh), k.piece(100)),
	}
}

func TestP171EachKindAtEachPlace(t *testing.T) {
	const ok, order, split, missing = api.OK, api.ErrOrder, api.ErrSplit, api.ErrMissing
	at := []string{"new", "done", "open", "busy", "pieces", "fresh", "both"}
	for _, x := range []struct {
		name string
		f    func(k maker) frame.Frame
		want []api.Errno // at each place
	}{
		{"a begin", func(k maker) frame.Frame { return k.begin(9) }, []api.Errno{ok, ok, order, order, order, order, order}},
		{"a relation", func(k maker) frame.Frame { return k.few(3) }, []api.Errno{order, order, ok, ok, order, ok, order}},
		{"a piece", func(k maker) frame.Frame { return k.piece(44) }, []api.Errno{order, order, ok, ok, ok, ok, ok}},
		{"an insert into what is known", func(k maker) frame.Frame { return k.into(1, 3) }, []api.Errno{order, order, ok, ok, split, order, split}},
		{"one with a large text", func(k maker) frame.Frame { return k.into(1, 100) }, []api.Errno{order, order, split, split, ok, split, order}},
		{"an insert into what is fresh", func(k maker) frame.Frame { return k.into(2, 3) }, []api.Errno{order, order, missing, missing, missing, ok, split}},
		{"one with a large text", func(k maker) frame.Frame { return k.into(2, 100) }, []api.Errno{order, order, missing, missing, missing, split, ok}},
		{"an update", func(k maker) frame.Frame {
			return k.event(few[0], update(ref(1, 1), image.None, nil, of("a")))
		}, []api.Errno{order, order, ok, ok, split, order, split}},
		{"a delete, by nothing", func(k maker) frame.Frame {
			return k.event(few[0], gone(ref(1, 1), image.None, nil))
		}, []api.Errno{order, order, api.ErrImage, api.ErrImage, split, api.ErrImage, split}},
		{"a truncate of what is known", func(k maker) frame.Frame { return k.emptied(1) }, []api.Errno{order, order, ok, ok, split, order, split}},
		{"a truncate of both", func(k maker) frame.Frame { return k.emptied(1, 2) }, []api.Errno{order, order, missing, missing, split, ok, split}},
		{"a commit", func(k maker) frame.Frame { return k.commit(7, 0) }, []api.Errno{order, order, ok, api.ErrCount, order, order, order}},
		{"a commit with an event", func(k maker) frame.Frame { return k.commit(7, 1) }, []api.Errno{order, order, api.ErrCount, ok, order, order, order}},
	} {
		for n, place := range at {
			tries(t, func(k maker) []try {
				return []try{{x.name + " " + place, places(k)[place], x.f(k), x.want[n]}}
			})
		}
	}
}

func TestP171Deletes(t *testing.T) {
	// A delete that is right, as at the places there is none: by key, and by full, of what is fresh, with pieces and without.
	byKey, byFull := sample.At(sample.Texts(2, rel.Key, 0), 60, 1), sample.At(sample.Texts(2, rel.Full, 0), 61, 1)
	long := strings.Repeat("x", 300)
	tries(t, func(k maker) []try {
		key, full := gone(byKey.Ref, image.Key, of("a", "-")), gone(byFull.Ref, image.Full, of("a", "b"))
		large := gone(byFull.Ref, image.Full, of("a", long))
		return []try{
			{"by key", frames(k.begin(7), k.relation(byKey)), k.event(byKey, key), api.OK},
			{"by full", frames(k.begin(7), k.relation(byFull)), k.event(byFull, full), api.OK},
			{"by full, with pieces", frames(k.begin(7), k.relation(byFull), k.piece(256), k.piece(44)), k.event(byFull, large), api.OK},
			{"by full, without pieces", frames(k.begin(7), k.relation(byFull)), k.event(byFull, large), api.ErrSplit},
			{"none is open", nil, k.event(byFull, full), api.ErrOrder},
			{"none is open any more", frames(k.begin(7), k.relation(byFull), k.event(byFull, full), k.commit(7, 1)), k.event(byFull, full), api.ErrOrder},
			{"another one is fresh", frames(k.begin(7), k.relation(byFull), k.event(byFull, full), k.few(1)), k.event(byFull, full), api.ErrOrder},
		}
	})
}

func TestP171Layer4(t *testing.T) {
	// What is not right by layer 4, at each place, also where more is wrong.
	for place := range places(1) {
		for k := maker(1); k <= 2; k++ {
			other := 3 - k
			h := start(t, places(k)[place]...)
			for _, x := range []struct {
				f    frame.Frame
				want api.Errno
			}{
				{maker(0).begin(9), api.ErrVersion},
				{maker(3).begin(9), api.ErrVersion},
				{maker(255).commit(7, 0), api.ErrVersion},
				{maker(3).of(9), api.ErrVersion},
				{maker(0).of(0, make([]byte, 4097)...), api.ErrVersion},
				{k.of(0), api.ErrKind},
				{k.of(9), api.ErrKind},
				{k.of(255, make([]byte, 5000)...), api.ErrKind},
				{other.of(9), api.ErrKind},
				{k.piece(4097), api.ErrLong},
				{k.of(frame.Begin, make([]byte, 4097)...), api.ErrLong},
				{other.of(frame.Commit, make([]byte, 5000)...), api.ErrLong},
				{k.of(frame.Insert, make([]byte, 4097)...), api.ErrLong},
			} {
				if e := h.take(x.f); e != x.want {
					t.Errorf("%s: version %d, kind %d, %d bytes: error %d, not %d", place, x.f.Version, x.f.Kind, len(x.f.Payload), e, x.want)
				}
			}
			for _, f := range probes(k) {
				h.take(f)
			}
		}
	}
}

func TestP171Version(t *testing.T) {
	for k := maker(1); k <= 2; k++ {
		other := 3 - k
		for place, l := range places(k) {
			for kind := uint8(1); kind <= 8; kind++ {
				if place == "new" {
					continue
				}
				h := start(t, l...)
				if e := h.take(other.of(kind)); e != api.ErrVersion {
					t.Errorf("%s, version %d behind %d, kind %d: error %d", place, other, k, kind, e)
				}
			}
		}
		// Of frames that would be right else.
		h := start(t, k.begin(5))
		for _, f := range frames(other.few(1), other.piece(5), other.commit(5, 0)) {
			if e := h.take(f); e != api.ErrVersion {
				t.Errorf("a %s: error %d", frame.Name(f.Kind), e)
			}
		}
		if h.take(k.commit(5, 0)) != api.OK || h.take(other.begin(6)) != api.ErrVersion || h.take(k.begin(6)) != api.OK {
			t.Error("the version does not stay behind a commit")
		}
		// Where the first one was refused, there was none yet.
		h = start(t)
		for _, f := range frames(k.commit(5, 0), k.piece(1), k.begin(0), k.of(frame.Begin), k.few(1), k.into(1, 1), maker(3).begin(5)) {
			if h.take(f) == api.OK || h.m.Version() != 0 {
				t.Errorf("a %s first: version %d", frame.Name(f.Kind), h.m.Version())
			}
		}
		if h.take(other.begin(5)) != api.OK || h.m.Version() != uint8(other) || h.take(k.commit(5, 0)) != api.ErrVersion || h.take(other.commit(5, 0)) != api.OK {
			t.Error("the version is that of a frame that was refused")
		}
	}
}

func TestP171Begin(t *testing.T) {
	tries(t, func(k maker) []try {
		done := frames(k.begin(300), k.commit(300, 0))
		open := append(slices.Clip(done), k.begin(301))
		top := frames(k.begin(math.MaxUint32), k.commit(math.MaxUint32, 0))
		return []try{
			{"the number 1 first", nil, k.begin(1), api.OK},
			{"the greatest number first", nil, k.begin(math.MaxUint32), api.OK},
			{"the number 0 first", nil, k.begin(0), api.ErrRange},
			{"the number 0", done, k.begin(0), api.ErrRange},
			{"a number above", done, k.begin(301), api.OK},
			{"a number far above", done, k.begin(math.MaxUint32), api.OK},
			{"the same number", done, k.begin(300), api.ErrOrder},
			{"a number below", done, k.begin(299), api.ErrOrder},
			{"the number 1", done, k.begin(1), api.ErrOrder},
			{"a number behind the greatest", top, k.begin(1), api.ErrOrder},
			{"the greatest once more", top, k.begin(math.MaxUint32), api.ErrOrder},
			{"one is open", open, k.begin(302), api.ErrOrder},
			{"the same is open", open, k.begin(301), api.ErrOrder},
			{"the first one is open", frames(k.begin(5)), k.begin(6), api.ErrOrder},

			{"no byte", done, k.of(frame.Begin), api.ErrShort},
			{"no stamp", done, k.of(frame.Begin, 5), api.ErrShort},
			{"a number of 2^32", done, k.of(frame.Begin, 128, 128, 128, 128, 16, 0), api.ErrRange},
			{"a long number", done, k.of(frame.Begin, 133, 0, 0), api.ErrOver},
			{"a long stamp", done, k.of(frame.Begin, 5, 133, 0), api.ErrOver},
			{"a byte too many", done, k.of(frame.Begin, 5, 0, 0), api.ErrLong},
			{"no byte first", nil, k.of(frame.Begin), api.ErrShort},

			{"one is open, ahead of a wrong payload", open, k.of(frame.Begin), api.ErrOrder},
			{"one is open, ahead of the number 0", open, k.begin(0), api.ErrOrder},
			{"a wrong payload ahead of a number below", done, k.of(frame.Begin, 5), api.ErrShort},
			{"bytes too many ahead of a number below", done, k.of(frame.Begin, 5, 0, 0), api.ErrLong},
			{"a long number ahead of a number below", done, k.of(frame.Begin, 133, 0, 0), api.ErrOver},
		}
	})
}

func TestP171Relation(t *testing.T) {
	wrong := func(turn func(r *rel.Rel)) []byte {
		// A relation whose bytes are right, but it is not: a letter, the identity or the type, in the bytes of one that is.
		r := rel.Rel{Ref: ref(9, 1), Name: "t", Columns: []rel.Column{{Name: "a", Type: value.Text}}}
		turn(&r)
		b := prim.PutText(prim.PutUint(prim.PutUint(nil, uint64(r.Oid)), uint64(r.Version)), r.Name)
		b = append(b, r.Identity, byte(len(r.Columns)))
		for _, c := range r.Columns {
			b = append(prim.PutText(b, c.Name), c.Type)
		}
		return b
	}
	right := wrong(func(*rel.Rel) {})
	tries(t, func(k maker) []try {
		open, known, fresh := frames(k.begin(7)), places(k)["open"], places(k)["fresh"]
		used := append(slices.Clip(fresh), k.into(2, 3))
		left := append(slices.Clip(known), k.piece(3))
		with := func(turn func(r *rel.Rel)) frame.Frame { return k.of(frame.Relation, wrong(turn)...) }
		return []try{
			{"one that is right", open, k.of(frame.Relation, right...), api.OK},
			{"no byte", open, k.of(frame.Relation), api.ErrShort},
			{"a byte too few", open, k.of(frame.Relation, right[:len(right)-1]...), api.ErrShort},
			{"a byte too many", open, k.of(frame.Relation, append(slices.Clip(right), 0)...), api.ErrLong},
			{"a long oid", open, k.of(frame.Relation, append([]byte{137, 0}, right[1:]...)...), api.ErrOver},
			{"an oid of 2^32", open, k.of(frame.Relation, append([]byte{128, 128, 128, 128, 16}, right[1:]...)...), api.ErrRange},
			{"the oid 0", open, with(func(r *rel.Rel) { r.Oid = 0 }), api.ErrRange},
			{"the version 0", open, with(func(r *rel.Rel) { r.Version = 0 }), api.ErrRange},
			{"a name that is none", open, with(func(r *rel.Rel) { r.Name = "T" }), api.ErrForm},
			{"no such identity", open, with(func(r *rel.Rel) { r.Identity = 3 }), api.ErrKind},
			{"no columns", open, with(func(r *rel.Rel) { r.Columns = nil }), api.ErrCount},
			{"no such type", open, with(func(r *rel.Rel) { r.Columns[0].Type = 7 }), api.ErrType},
			{"no key", open, with(func(r *rel.Rel) { r.Identity = rel.Key }), api.ErrKey},
			{"two names alike", open, with(func(r *rel.Rel) { r.Columns = append(r.Columns, r.Columns[0]) }), api.ErrExists},

			{"one that is known", known, k.few(1), api.ErrExists},
			{"one that is known, of another shape", known, k.relation(sample.At(sample.Texts(3, rel.Full), 1, 1)), api.ErrExists},
			{"another version of it", known, k.relation(sample.At(few[0], 1, 2)), api.OK},
			{"one that is fresh", fresh, k.few(2), api.ErrExists},
			{"one that came, and was used", used, k.few(2), api.ErrExists},
			{"another one behind it", used, k.few(3), api.OK},
			{"one ahead of one that is fresh", append(slices.Clip(open), k.few(5)), k.few(4), api.OK},
			{"pieces", left, k.few(3), api.ErrOrder},
			{"none is open", nil, k.few(1), api.ErrOrder},
			{"none is open any more", places(k)["done"], k.few(2), api.ErrOrder},

			{"none is open, ahead of wrong bytes", nil, k.of(frame.Relation), api.ErrOrder},
			{"none is open, ahead of one that is known", places(k)["done"], k.few(1), api.ErrOrder},
			{"pieces ahead of wrong bytes", left, k.of(frame.Relation), api.ErrOrder},
			{"pieces ahead of one that is known", left, k.few(1), api.ErrOrder},
			{"wrong bytes ahead of one that is known", known, k.of(frame.Relation, append(k.few(1).Payload, 0)...), api.ErrLong},
		}
	})
}

// filled are the frames by which a machine has n relations that were committed, and m that came in the open one, of which
// none is fresh; the number of the transaction that is open is 7.
func filled(k maker, n, m uint32) []frame.Frame {
	l := frames(k.begin(5))
	for oid := uint32(1); oid <= n; oid++ {
		l = append(l, k.few(oid), k.into(oid, 1))
	}
	l = append(l, k.commit(5, int(n)), k.begin(7))
	for oid := n + 1; oid <= n+m; oid++ {
		l = append(l, k.few(oid), k.into(oid, 1))
	}
	return l
}

func TestP171RelationsFull(t *testing.T) {
	for _, x := range []struct {
		known, came uint32
		want        api.Errno
	}{
		{62, 0, api.OK}, {63, 0, api.OK}, {64, 0, api.ErrFull},
		{0, 62, api.OK}, {0, 63, api.OK}, {0, 64, api.ErrFull},
		{40, 22, api.OK}, {40, 23, api.OK}, {40, 24, api.ErrFull}, {1, 63, api.ErrFull}, {63, 1, api.ErrFull},
	} {
		for k := maker(1); k <= 2; k++ {
			n := x.known + x.came
			h := start(t, filled(k, x.known, x.came)...)
			if h.take(k.few(1)) != api.ErrExists || h.take(k.few(n)) != api.ErrExists || h.take(k.of(frame.Relation, append(k.few(77).Payload, 0)...)) != api.ErrLong {
				t.Errorf("%d and %d: one that is there, or wrong bytes", x.known, x.came)
			}
			if e := h.take(k.few(n + 1)); e != x.want {
				t.Errorf("%d and %d: error %d, not %d", x.known, x.came, e, x.want)
			}
			if x.want == api.OK && h.take(k.into(n+1, 3)) != api.OK || h.take(k.few(1)) != api.ErrExists || h.take(k.into(1, 3)) != api.OK {
				t.Errorf("%d and %d: what comes behind it", x.known, x.came)
			}
		}
	}
	// Fresh ones count, too; and so they are 64 at most.
	h := start(t, maker(1).begin(5))
	for oid := uint32(1); oid <= 70; oid++ {
		if e := h.take(maker(1).few(oid)); (e == api.OK) != (oid <= 64) || e != api.OK && e != api.ErrFull {
			t.Errorf("relation %d: error %d", oid, e)
		}
	}
	if _, fresh, _ := h.m.Pending(); fresh != 64 {
		t.Errorf("%d are fresh", fresh)
	}
}

func TestP171Piece(t *testing.T) {
	tries(t, func(k maker) []try {
		open, both := frames(k.begin(7)), places(k)["both"]
		full := append(slices.Clip(open), slices.Repeat(frames(k.piece(256)), 256)...)
		mixed := slices.Clip(open)
		for n := range 256 {
			mixed = append(mixed, k.piece(n+1))
		}
		return []try{
			{"no byte", open, k.piece(0), api.ErrSplit},
			{"1 byte", open, k.piece(1), api.OK},
			{"255 bytes", open, k.piece(255), api.OK},
			{"256 bytes", open, k.piece(256), api.OK},
			{"257 bytes", open, k.piece(257), api.ErrSplit},
			{"4096 bytes", open, k.piece(4096), api.ErrSplit},
			{"no byte behind others", both, k.piece(0), api.ErrSplit},
			{"1 byte behind others", both, k.piece(1), api.OK},
			{"257 bytes behind others", both, k.piece(257), api.ErrSplit},
			{"bytes of any kind", open, k.of(frame.Piece, sample.Mixed(200, 3)...), api.OK},
			{"the 255th", full[:255], k.piece(256), api.OK},
			{"the 256th", full[:256], k.piece(256), api.OK},
			{"the 257th", full, k.piece(256), api.ErrSplit},
			{"the 257th, of 1 byte", full, k.piece(1), api.ErrSplit},
			{"the 257th, of no byte", full, k.piece(0), api.ErrSplit},
			{"the 257th behind others", mixed, k.piece(5), api.ErrSplit},
			{"none is open", nil, k.piece(1), api.ErrOrder},
			{"none is open, ahead of no byte", nil, k.piece(0), api.ErrOrder},
			{"none is open any more, ahead of 257 bytes", places(k)["done"], k.piece(257), api.ErrOrder},
		}
	})
}

func TestP171MostPieces(t *testing.T) {
	// An event that has as many pieces as there may be.
	r := sample.At(sample.Texts(16, rel.Full, 3), 60, 1)
	w := of(slices.Repeat([]string{strings.Repeat("x", 2048)}, 16)...)
	less := sample.Put(w, 15, sample.Text(strings.Repeat("x", 2048-256)))
	for k := maker(1); k <= 2; k++ {
		all, fewer := k.event(r, update(r.Ref, image.Full, w, w)), k.event(r, update(r.Ref, image.Full, w, less))
		ahead := append(frames(k.begin(7), k.relation(r)), slices.Repeat(frames(k.piece(256)), 255)...)
		h := start(t, ahead...)
		if h.take(all) != api.ErrSplit || h.take(fewer) != api.OK || h.take(k.commit(7, 1)) != api.OK {
			t.Error("255 pieces")
		}
		h.isLog()
		h = start(t, ahead...)
		if h.take(k.piece(256)) != api.OK || h.take(k.piece(256)) != api.ErrSplit || h.take(fewer) != api.ErrSplit || h.take(all) != api.OK || h.take(k.commit(7, 1)) != api.OK {
			t.Error("256 pieces")
		}
		h.isLog()
		if !sample.EqualEvent(h.told[0].Events[0], update(r.Ref, image.Full, w, w)) {
			t.Error("another event")
		}
	}
}

func TestP171EventsFull(t *testing.T) {
	for k := maker(1); k <= 2; k++ {
		h := start(t, k.begin(7), k.few(1))
		for n := range 515 {
			if n == 511 {
				// With 511 events a wrong one is told by itself; with 512 no more.
				if h.take(k.into(2, 3)) != api.ErrMissing || h.take(k.of(frame.Insert)) != api.ErrShort || h.take(k.into(1, 99)) != api.ErrSplit || h.take(k.commit(7, 512)) != api.ErrCount {
					t.Error("511 events")
				}
			}
			e := h.take(k.into(1, n%64))
			if (e == api.OK) != (n < 512) || e != api.OK && e != api.ErrFull {
				t.Errorf("event %d: error %d", n, e)
			}
		}
		for _, f := range frames(k.of(frame.Insert), k.into(2, 3), k.of(frame.Update, 1), k.of(frame.Delete), k.emptied(), k.emptied(2, 1), k.into(1, 99)) {
			if e := h.take(f); e != api.ErrFull {
				t.Errorf("a wrong %s behind 512: error %d", frame.Name(f.Kind), e)
			}
		}
		// Relations and pieces may come all the same; but then there is no event that takes them.
		if h.take(k.commit(7, 511)) != api.ErrCount || h.take(k.commit(7, 513)) != api.ErrRange || h.take(k.begin(8)) != api.ErrOrder {
			t.Error("512 events")
		}
		if h.take(k.commit(7, 512)) != api.OK || len(h.told[0].Events) != 512 || h.take(k.begin(8)) != api.OK || h.take(k.into(1, 1)) != api.OK {
			t.Error("512 events")
		}
		h.isLog()
		h = start(t, h.took[:514]...)
		if h.take(k.few(2)) != api.OK || h.take(k.into(2, 1)) != api.ErrFull || h.take(k.piece(9)) != api.OK || h.take(k.commit(7, 512)) != api.ErrOrder {
			t.Error("512 events, and more")
		}
	}
}

func TestP171EventTake(t *testing.T) {
	byFull := sample.At(sample.Texts(2, rel.Full, 0), 60, 1)
	tries(t, func(k maker) []try {
		known := append(places(k)["open"], k.relation(byFull), k.event(byFull, gone(byFull.Ref, image.Full, of("a", "b"))))
		left := append(slices.Clip(known), k.piece(9))
		fresh := append(slices.Clip(known), k.few(2))
		large := k.into(1, 100).Payload
		cut := func(f frame.Frame, n int) frame.Frame { return k.of(f.Kind, f.Payload[:len(f.Payload)-n]...) }
		more := func(f frame.Frame) frame.Frame { return k.of(f.Kind, append(slices.Clip(f.Payload), 0)...) }
		both := k.event(byFull, update(byFull.Ref, image.Full, of("a", "b"), of("c", "d")))
		gap := k.event(byFull, gone(byFull.Ref, image.Full, of("a", "b")))
		return []try{
			{"no byte", known, k.of(frame.Insert), api.ErrShort},
			{"no version", known, k.of(frame.Update, 60), api.ErrShort},
			{"no old image's kind", known, k.of(frame.Delete, 60, 1), api.ErrShort},
			{"no image", known, k.of(frame.Insert, 1, 1), api.ErrShort},
			{"an insert cut", known, cut(k.into(1, 3), 1), api.ErrShort},
			{"an update cut", known, cut(both, 1), api.ErrShort},
			{"a delete cut", known, cut(gap, 1), api.ErrShort},
			{"a truncate cut", known, cut(k.emptied(1, 60), 1), api.ErrShort},
			{"an insert with a byte more", known, more(k.into(1, 3)), api.ErrLong},
			{"an update with a byte more", known, more(both), api.ErrLong},
			{"a delete with a byte more", known, more(gap), api.ErrLong},
			{"a truncate with a byte more", known, more(k.emptied(1)), api.ErrLong},
			{"a long oid", known, k.of(frame.Insert, 129, 0, 1), api.ErrOver},
			{"an oid of 2^32", known, k.of(frame.Delete, 128, 128, 128, 128, 16, 1), api.ErrRange},
			{"a truncate of nine", known, k.of(frame.Truncate, 0, 9), api.ErrRange},
			{"a relation that is missing", known, k.into(3, 3), api.ErrMissing},
			{"another version", known, k.of(frame.Insert, 1, 2), api.ErrMissing},
			{"an old image of the kind 3", known, k.of(frame.Update, 60, 1, 3), api.ErrImage},
			{"bits behind the last column", known, k.of(frame.Insert, 1, 1, 2), api.ErrForm},
			{"a text of other bytes", known, k.of(frame.Insert, append([]byte{1, 1}, [][]byte{{0, 1, 1, 10}, {0, 3, 10}}[k-1]...)...), api.ErrForm},
			{"a large text of 64 bytes", known, k.of(frame.Insert, append(large[:len(large)-1:len(large)-1], 64)...), api.ErrRange},

			{"a wrong payload ahead of pieces left", left, cut(k.into(1, 3), 1), api.ErrShort},
			{"a relation that is missing ahead of pieces left", left, k.into(3, 3), api.ErrMissing},
			{"a wrong payload ahead of what is fresh", fresh, cut(k.into(1, 3), 1), api.ErrShort},
			{"a relation that is missing ahead of what is fresh", fresh, k.into(3, 3), api.ErrMissing},
			{"none is open, ahead of a wrong payload", places(k)["done"], k.of(frame.Insert), api.ErrOrder},
			{"none is open, ahead of a relation that is missing", places(k)["done"], k.into(3, 3), api.ErrOrder},
		}
	})
}

func TestP171EventFill(t *testing.T) {
	r := sample.At(sample.Texts(3, rel.Full, 0), 60, 1)
	long, more := strings.Repeat("x", 300), strings.Repeat("y", 65)
	piece := func(k maker, l ...int) []frame.Frame {
		all := frames(k.begin(7), k.relation(r))
		for _, n := range l {
			all = append(all, k.piece(n))
		}
		return all
	}
	tries(t, func(k maker) []try {
		two := k.event(r, insert(r.Ref, of("a", long, "b")))
		three := k.event(r, update(r.Ref, image.Full, of("a", "b", more), of("a", long, "b")))
		eight := k.event(r, insert(r.Ref, of("a", strings.Repeat("x", 2048), "b")))
		none := k.event(r, insert(r.Ref, of("a", "b", "c")))
		key := k.event(r, insert(r.Ref, of("-", long, "b")))
		odd := k.of(frame.Piece, bytes.Repeat([]byte("\n"), 65)...)
		large := k.event(r, insert(r.Ref, of("a", "b", more)))
		bare := k.event(rel.Rel{}, truncate(0, r.Ref))
		return []try{
			{"just its pieces", piece(k, 256, 44), two, api.OK},
			{"none for none", piece(k), none, api.OK},
			{"those of both images", piece(k, 65, 256, 44), three, api.OK},
			{"eight", piece(k, 256, 256, 256, 256, 256, 256, 256, 256), eight, api.OK},
			{"too few: none", piece(k), two, api.ErrSplit},
			{"too few: the first one", piece(k, 256), two, api.ErrSplit},
			{"too few: the last one", piece(k, 44), two, api.ErrSplit},
			{"too few: of both images", piece(k, 65, 256), three, api.ErrSplit},
			{"too few: seven", piece(k, 256, 256, 256, 256, 256, 256, 256), eight, api.ErrSplit},
			{"too many: for none", piece(k, 1), none, api.ErrSplit},
			{"too many: three", piece(k, 256, 44, 1), two, api.ErrSplit},
			{"too many: for a truncate", piece(k, 256), bare, api.ErrSplit},
			{"another order", piece(k, 44, 256), two, api.ErrSplit},
			{"another order of both images", piece(k, 256, 44, 65), three, api.ErrSplit},
			{"another length: the last one less", piece(k, 256, 43), two, api.ErrSplit},
			{"another length: the last one more", piece(k, 256, 45), two, api.ErrSplit},
			{"another length: the first one less", piece(k, 255, 45), two, api.ErrSplit},
			{"the same in all, otherwise parted", piece(k, 150, 150), two, api.ErrSplit},

			{"pieces too few ahead of a key that is null", piece(k, 256), key, api.ErrSplit},
			{"a key that is null", piece(k, 256, 44), key, api.ErrNull},
			{"a large text of other bytes", append(piece(k), odd), large, api.ErrForm},
			{"pieces too many ahead of a truncate of none", piece(k, 1), k.emptied(), api.ErrSplit},
			{"pieces too many ahead of a ref that is missing", piece(k, 1), k.emptied(1), api.ErrSplit},
			{"pieces too many ahead of what is fresh", append(piece(k), none, k.few(1), k.piece(1)), none, api.ErrSplit},
		}
	})
}

func TestP171EventRight(t *testing.T) {
	// Each event that is wrong by layer 13, if a payload can tell it, and layer 15 takes it.
	shapes := sample.Shapes()
	found := map[api.Errno]int{}
	for _, x := range sample.WrongEvents() {
		for k := maker(1); k <= 2; k++ {
			at := slices.IndexFunc(shapes, func(r rel.Rel) bool { return r.Ref == x.Event.At })
			var r rel.Rel
			if at >= 0 {
				r = shapes[at]
			}
			f := k.event(r, x.Event)
			p, e := record.Take(sample.Catalog(shapes...), f.Kind, f.Payload, f.Version)
			if e != api.OK || p.Count() > 0 || !sample.EqualEvent(p.Event, x.Event) {
				continue
			}
			h := start(t, k.begin(7))
			for _, r := range shapes[:7] {
				h.take(k.relation(r))
				h.take(k.event(r, truncate(0, r.Ref)))
			}
			// One is fresh, and no event here uses it: so that would be wrong, too.
			h.take(k.relation(shapes[7]))
			for range 2 {
				if e := h.take(f); e != x.Err {
					t.Errorf("%s, version %d: error %d, not %d", x.Name, k, e, x.Err)
				}
			}
			if h.take(k.commit(7, 7)) != api.ErrOrder || h.take(k.event(shapes[7], truncate(3, shapes[7].Ref))) != api.OK || h.take(f) != x.Err || h.take(k.commit(7, 8)) != api.OK {
				t.Errorf("%s, version %d: what comes behind it", x.Name, k)
			}
			h.isLog()
			found[x.Err]++
		}
	}
	for _, e := range []api.Errno{api.ErrCount, api.ErrOrder, api.ErrMissing, api.ErrRange, api.ErrImage, api.ErrKey, api.ErrNull} {
		if found[e] == 0 {
			t.Errorf("error %d is not told", e)
		}
	}
}

func TestP171EventFresh(t *testing.T) {
	tries(t, func(k maker) []try {
		known := places(k)["open"]
		with := func(oids ...uint32) []frame.Frame {
			l := slices.Clip(known)
			for _, oid := range oids {
				l = append(l, k.few(oid))
			}
			return l
		}
		nine := with(2, 3, 4, 5, 6, 7, 8, 9, 10)
		return []try{
			{"one, that it uses", with(2), k.into(2, 3), api.OK},
			{"one, that it does not use", with(2), k.into(1, 3), api.ErrOrder},
			{"one, and a truncate of it", with(2), k.emptied(2), api.OK},
			{"one, and a truncate of it, and of what is known", with(2), k.emptied(1, 2), api.OK},
			{"one, and a truncate of what is known", with(2), k.emptied(1), api.ErrOrder},
			{"two, and a truncate of them", with(2, 3), k.emptied(2, 3), api.OK},
			{"two, and a truncate of three", with(2, 3), k.emptied(1, 2, 3), api.OK},
			{"two, not one behind the other", with(2, 4), k.emptied(1, 2, 4), api.OK},
			{"two in another order", with(3, 2), k.emptied(2, 3), api.ErrOrder},
			{"three in another order", with(2, 4, 3), k.emptied(1, 2, 3, 4), api.ErrOrder},
			{"two, of which it uses the first one", with(2, 3), k.into(2, 3), api.ErrOrder},
			{"two, of which it uses the last one", with(2, 3), k.into(3, 3), api.ErrOrder},
			{"two, of which a truncate uses the last one", with(2, 3), k.emptied(1, 3), api.ErrOrder},
			{"three, of which it uses two", with(2, 3, 4), k.emptied(2, 4), api.ErrOrder},
			{"eight", with(2, 3, 4, 5, 6, 7, 8, 9), k.emptied(2, 3, 4, 5, 6, 7, 8, 9), api.OK},
			{"nine", nine, k.emptied(2, 3, 4, 5, 6, 7, 8, 9), api.ErrOrder},
			{"nine, with a truncate of nine", nine, k.emptied(2, 3, 4, 5, 6, 7, 8, 9, 10), api.ErrRange},
			{"one behind one that was used", append(with(3), k.into(3, 3), k.few(2)), k.emptied(2, 3), api.OK},
			{"one behind one that was used, without it", append(with(3), k.into(3, 3), k.few(2)), k.emptied(2), api.OK},
			{"one that is fresh, and just another one that was is used", append(with(3), k.into(3, 3), k.few(2)), k.emptied(3), api.ErrOrder},
			{"two in order, behind one that was used", append(with(9), k.emptied(9), k.few(2), k.few(4)), k.emptied(1, 2, 4, 9), api.OK},
			{"two in another order, behind one that was used", append(with(3), k.into(3, 3), k.few(4), k.few(2)), k.emptied(2, 3, 4), api.ErrOrder},

			{"a ref that is missing ahead of what is fresh", with(2), k.emptied(1, 3), api.ErrMissing},
			{"flags ahead of what is fresh", with(2), k.event(rel.Rel{}, truncate(4, ref(1, 1))), api.ErrRange},
			{"refs that fall ahead of another order", with(3, 2), k.event(rel.Rel{}, truncate(4, ref(3, 1), ref(2, 1))), api.ErrOrder},
			{"refs twice ahead of what is missing", with(2), k.emptied(2, 2, 9), api.ErrOrder},
		}
	})
}

func TestP171Commit(t *testing.T) {
	tries(t, func(k maker) []try {
		p := places(k)
		one := append(slices.Clip(p["open"]), k.into(1, 3))
		three := append(slices.Clip(one), k.into(1, 3), k.emptied(1))
		return []try{
			{"no event", p["open"], k.commit(7, 0), api.OK},
			{"one event", one, k.commit(7, 1), api.OK},
			{"three events", three, k.commit(7, 3), api.OK},
			{"a relation that was used", append(slices.Clip(p["fresh"]), k.into(2, 3)), k.commit(7, 1), api.OK},
			{"pieces left", append(slices.Clip(one), k.piece(1)), k.commit(7, 1), api.ErrOrder},
			{"a relation left", append(slices.Clip(one), k.few(2)), k.commit(7, 1), api.ErrOrder},
			{"both left", append(slices.Clip(one), k.few(2), k.piece(1)), k.commit(7, 1), api.ErrOrder},
			{"none is open", nil, k.commit(7, 0), api.ErrOrder},
			{"none is open any more", p["done"], k.commit(5, 1), api.ErrOrder},
			{"a number above", one, k.commit(8, 1), api.ErrRange},
			{"a number below", one, k.commit(6, 1), api.ErrRange},
			{"the last one's number", one, k.commit(5, 1), api.ErrRange},
			{"the number 0", one, k.commit(0, 1), api.ErrRange},
			{"an event less", three, k.commit(7, 2), api.ErrCount},
			{"an event more", three, k.commit(7, 4), api.ErrCount},
			{"512 events", three, k.commit(7, 512), api.ErrCount},
			{"513 events", three, k.commit(7, 513), api.ErrRange},
			{"no events of one", one, k.commit(7, 0), api.ErrCount},
			{"no byte", one, k.of(frame.Commit), api.ErrShort},
			{"no events' number", one, k.of(frame.Commit, 7), api.ErrShort},
			{"a byte too many", one, k.of(frame.Commit, 7, 1, 0), api.ErrLong},
			{"a long number", one, k.of(frame.Commit, 135, 0, 1), api.ErrOver},
			{"long events", one, k.of(frame.Commit, 7, 129, 0), api.ErrOver},
			{"a number of 2^32", one, k.of(frame.Commit, 128, 128, 128, 128, 16, 1), api.ErrRange},

			{"pieces left ahead of a wrong payload", append(slices.Clip(one), k.piece(1)), k.of(frame.Commit), api.ErrOrder},
			{"a relation left ahead of another number", append(slices.Clip(one), k.few(2)), k.commit(8, 2), api.ErrOrder},
			{"none is open, ahead of a wrong payload", p["done"], k.of(frame.Commit), api.ErrOrder},
			{"a wrong payload ahead of another number", one, k.of(frame.Commit, 8, 1, 0), api.ErrLong},
			{"a wrong payload ahead of other events", one, k.of(frame.Commit, 7, 3, 0), api.ErrLong},
			{"another number ahead of other events", one, k.commit(8, 2), api.ErrRange},
		}
	})
}

func TestP171Tells(t *testing.T) {
	// What is told is told at the commit alone, whole, and once.
	r := sample.At(sample.Texts(2, rel.Key, 0), 60, 1)
	long := strings.Repeat("x", 256) + strings.Repeat("y", 44)
	want := []event.Tx{
		{Xid: 5, Stamp: math.MaxUint64},
		{Xid: 6, Stamp: 0, Events: []event.Event{
			insert(r.Ref, of("a", long)),
			update(r.Ref, image.Key, of("a", "-"), of("b", "=")),
			update(r.Ref, image.None, nil, of("b", "-")),
			gone(r.Ref, image.Key, of("b", "-")),
			truncate(3, r.Ref),
		}},
	}
	for k := maker(1); k <= 2; k++ {
		h := start(t, k.of(frame.Begin, record.PutBegin(5, math.MaxUint64)...))
		if done, whole, e := h.m.Take(k.commit(5, 0)); !whole || e != api.OK || !sample.EqualTx(done, want[0]) {
			t.Errorf("%v, %v, error %d", done, whole, e)
		}
		l := frames(k.of(frame.Begin, record.PutBegin(6, 0)...), k.relation(r), k.of(frame.Piece, []byte(long[:256])...), k.of(frame.Piece, []byte(long[256:])...))
		for _, v := range want[1].Events {
			l = append(l, k.event(r, v))
		}
		for _, f := range l {
			if done, whole, e := h.m.Take(f); whole || e != api.OK || !sample.EqualTx(done, event.Tx{}) || done.Events != nil {
				t.Errorf("a %s: %v, %v, error %d", frame.Name(f.Kind), done, whole, e)
			}
		}
		if done, whole, e := h.m.Take(k.commit(6, 5)); !whole || e != api.OK || !sample.EqualTx(done, want[1]) {
			t.Errorf("%v, %v, error %d", done, whole, e)
		}
	}
}

func TestP172States(t *testing.T) {
	// One machine frame by frame, with all that it has, written out.
	for k := maker(1); k <= 2; k++ {
		m := order.New()
		for n, x := range []struct {
			f                     frame.Frame
			want                  api.Errno
			open                  bool
			version               uint8
			events, fresh, pieces int
		}{
			{k.commit(5, 0), api.ErrOrder, false, 0, 0, 0, 0},
			{k.begin(0), api.ErrRange, false, 0, 0, 0, 0},
			{k.begin(5), api.OK, true, uint8(k), 0, 0, 0},
			{k.begin(6), api.ErrOrder, true, uint8(k), 0, 0, 0},
			{k.few(3), api.OK, true, uint8(k), 0, 1, 0},
			{k.few(4), api.OK, true, uint8(k), 0, 2, 0},
			{k.few(3), api.ErrExists, true, uint8(k), 0, 2, 0},
			{k.into(3, 3), api.ErrOrder, true, uint8(k), 0, 2, 0},
			{k.piece(3), api.OK, true, uint8(k), 0, 2, 1},
			{k.piece(0), api.ErrSplit, true, uint8(k), 0, 2, 1},
			{k.emptied(3, 4), api.ErrSplit, true, uint8(k), 0, 2, 1},
		} {
			_, _, e := m.Take(x.f)
			events, fresh, pieces := m.Pending()
			if e != x.want || m.Open() != x.open || m.Version() != x.version || m.Last() != 0 || m.Catalog().Len() != 0 || events != x.events || fresh != x.fresh || pieces != x.pieces {
				t.Errorf("step %d: error %d, open %v, version %d, last %d, %d, %d, %d", n, e, m.Open(), m.Version(), m.Last(), events, fresh, pieces)
			}
		}
		m = order.New()
		for n, x := range []struct {
			f                     frame.Frame
			whole                 bool
			last                  uint32
			rels                  []uint32
			events, fresh, pieces int
		}{
			{k.begin(5), false, 0, nil, 0, 0, 0},
			{k.few(3), false, 0, nil, 0, 1, 0},
			{k.into(3, 3), false, 0, nil, 1, 0, 0},
			{k.few(1), false, 0, nil, 1, 1, 0},
			{k.piece(256), false, 0, nil, 1, 1, 1},
			{k.piece(44), false, 0, nil, 1, 1, 2},
			{k.into(1, 300), false, 0, nil, 2, 0, 0},
			{k.commit(5, 2), true, 5, []uint32{1, 3}, 0, 0, 0},
			{k.begin(300), false, 5, []uint32{1, 3}, 0, 0, 0},
			{k.few(2), false, 5, []uint32{1, 3}, 0, 1, 0},
			{k.few(9), false, 5, []uint32{1, 3}, 0, 2, 0},
			{k.emptied(1, 2, 9), false, 5, []uint32{1, 3}, 1, 0, 0},
			{k.into(9, 0), false, 5, []uint32{1, 3}, 2, 0, 0},
			{k.commit(300, 2), true, 300, []uint32{1, 2, 3, 9}, 0, 0, 0},
			{k.begin(301), false, 300, []uint32{1, 2, 3, 9}, 0, 0, 0},
			{k.commit(301, 0), true, 301, []uint32{1, 2, 3, 9}, 0, 0, 0},
			{k.begin(math.MaxUint32), false, 301, []uint32{1, 2, 3, 9}, 0, 0, 0},
			{k.few(4), false, 301, []uint32{1, 2, 3, 9}, 0, 1, 0},
			{k.emptied(4), false, 301, []uint32{1, 2, 3, 9}, 1, 0, 0},
		} {
			_, whole, e := m.Take(x.f)
			var rels []rel.Rel
			for _, oid := range x.rels {
				rels = append(rels, few[oid-1])
			}
			events, fresh, pieces := m.Pending()
			if e != api.OK || whole != x.whole || m.Open() == x.whole || m.Version() != uint8(k) || m.Last() != x.last || events != x.events || fresh != x.fresh || pieces != x.pieces {
				t.Errorf("step %d: error %d, %v, open %v, version %d, last %d, %d, %d, %d", n, e, whole, m.Open(), m.Version(), m.Last(), events, fresh, pieces)
			}
			if !m.Catalog().Same(sample.Catalog(rels...)) {
				t.Errorf("step %d: %d relations", n, m.Catalog().Len())
			}
		}
	}
}

func TestP172NotCommitted(t *testing.T) {
	// Relations of a transaction whose commit did not come are not in the catalog, used or not, at whatever place.
	for k := maker(1); k <= 2; k++ {
		h := start(t, filled(k, 5, 0)...)
		for oid := uint32(6); oid <= 30; oid++ {
			h.take(k.few(oid))
			if oid%2 == 0 {
				h.take(k.into(oid, 1))
			} else {
				h.take(k.emptied(1, oid))
			}
			h.take(k.relation(sample.At(few[0], oid%5+1, oid)))
			h.take(k.event(few[0], insert(ref(oid%5+1, oid), of("a"))))
			if !h.m.Catalog().Same(sample.Catalog(few[:5]...)) {
				t.Fatalf("oid %d: %d relations", oid, h.m.Catalog().Len())
			}
		}
		h.take(k.few(31))
		if h.take(k.commit(7, 50)) != api.ErrOrder || h.m.Catalog().Len() != 5 || h.take(k.into(31, 1)) != api.OK || h.take(k.commit(7, 51)) != api.OK || h.m.Catalog().Len() != 56 {
			t.Errorf("%d relations", h.m.Catalog().Len())
		}
	}
}

// logs are the frames of stories' logs, with the stories.
func logs(t *testing.T, version uint8, use func(c *catalog.Catalog, l []event.Tx, log []frame.Frame)) {
	t.Helper()
	shapes, more := sample.Shapes(), sample.Few(12)
	c := sample.Catalog(slices.Concat(shapes, more[4:])...)
	for seed := range uint32(10) {
		l := sample.Txs(shapes, 8, 900*seed)
		if seed%2 == 1 {
			l = sample.Txs(slices.Concat(shapes, more[4:]), 14, 900*seed)
		}
		b, f := encode.Encode(c, version, l...)
		all, whole := sample.Frames(b)
		if f.Err != api.OK || !whole {
			t.Fatalf("no log: %v", f)
		}
		use(c, l, all)
	}
}

func TestP173Story(t *testing.T) {
	for version := uint8(1); version <= 2; version++ {
		logs(t, version, func(c *catalog.Catalog, l []event.Tx, log []frame.Frame) {
			h := start(t)
			for k, f := range log {
				if e := h.take(f); e != api.OK {
					t.Fatalf("frame %d, a %s: error %d", k, frame.Name(f.Kind), e)
				}
				n := len(h.told)
				if f.Kind == frame.Commit && (!sample.EqualTx(h.told[n-1], l[n-1]) || !h.m.Catalog().Same(fit.Only(c, l[:n]...)) || h.m.Last() != l[n-1].Xid) {
					t.Fatalf("transaction %d: another one, or %d relations", n-1, h.m.Catalog().Len())
				}
			}
			if !slices.EqualFunc(h.told, l, sample.EqualTx) || h.m.Open() || h.m.Version() != version {
				t.Fatalf("%d transactions, not %d", len(h.told), len(l))
			}
			h.isLog()
		})
	}
}

func TestP173Great(t *testing.T) {
	// As many relations, events and transactions as there may be.
	rels := sample.Few(64)
	c := sample.Catalog(rels...)
	var all []event.Event
	for n := range uint32(512) {
		all = append(all, sample.Into(1+n*7%64, strings.Repeat("x", int(n))))
	}
	l := []event.Tx{sample.Tx(1, all...)}
	for xid := range uint32(300) {
		l = append(l, event.Tx{Xid: xid + 2, Stamp: uint64(xid) << 40, Events: all[xid : xid+3]})
	}
	l = append(l, event.Tx{Xid: math.MaxUint32, Stamp: math.MaxUint64, Events: all})
	for version := uint8(1); version <= 2; version++ {
		b, _ := encode.Encode(c, version, l...)
		log, _ := sample.Frames(b)
		m := order.New()
		var told []event.Tx
		for k, f := range log {
			o, whole, e := m.Take(f)
			if e != api.OK {
				t.Fatalf("frame %d, a %s: error %d", k, frame.Name(f.Kind), e)
			}
			if whole {
				told = append(told, o)
			}
		}
		if !slices.EqualFunc(told, l, sample.EqualTx) || !m.Catalog().Same(c) || m.Last() != math.MaxUint32 {
			t.Errorf("version %d: another story", version)
		}
	}
}

func TestP173Turned(t *testing.T) {
	// Logs in which frames are left out, twice there, in another order, or otherwise turned; all that is right goes on.
	found := map[api.Errno]int{}
	for version := uint8(1); version <= 2; version++ {
		logs(t, version, func(c *catalog.Catalog, l []event.Tx, log []frame.Frame) {
			log = log[:min(len(log), 40)]
			for at, f := range log {
				b := sample.Mixed(4, uint32(at*17+len(log))*7919)
				other := log[int(b[0])%len(log)]
				turned := f
				turned.Payload = bytes.Clone(f.Payload)
				switch n := len(turned.Payload); {
				case n == 0:
				case b[1]%3 == 0:
					turned.Payload[int(b[2])%n] ^= 1 << (b[3] % 8)
				case b[1]%3 == 1:
					turned.Payload = turned.Payload[:n-1]
				default:
					turned.Payload = append(turned.Payload, b[2])
				}
				kind, swapped := f, slices.Clone(log)
				kind.Kind = 1 + (f.Kind+b[3]%7)%8
				if at > 0 {
					swapped[at-1], swapped[at] = swapped[at], swapped[at-1]
				}
				for _, all := range [][]frame.Frame{
					slices.Delete(slices.Clone(log), at, at+1),
					slices.Insert(slices.Clone(log), at, f),
					slices.Insert(slices.Clone(log), at, other),
					slices.Insert(slices.Clone(log), at, turned),
					slices.Concat(log[:at], frames(turned), log[at+1:]),
					slices.Concat(log[:at], frames(kind), log[at+1:]),
					swapped,
				} {
					h := start(t)
					for _, f := range all[:min(len(all), at+10)] {
						found[h.take(f)]++
					}
					h.isLog()
				}
			}
		})
	}
	for e := api.OK; e <= api.ErrCount; e++ {
		if e == api.ErrSum || e == api.ErrType || e == api.ErrFull || e == api.ErrKey || e == api.ErrNull {
			continue
		}
		if found[e] == 0 {
			t.Errorf("error %d is never told", e)
		}
	}
}

func TestP173AnyFrames(t *testing.T) {
	// Frames in orders that show none, most of them such as are often right.
	told := 0
	for seed := range uint32(300) {
		k := maker(1 + seed%2)
		h := start(t)
		for _, b := range sample.Parts(sample.Mixed(6*120, seed*7919), 6) {
			oid := uint32(b[1])%4 + 1
			events, _, pieces := h.m.Pending()
			var f frame.Frame
			switch b[0] % 14 {
			case 0, 1:
				f = k.begin(h.m.Last() + uint32(b[2])%3)
			case 2, 3:
				f = k.commit(h.s.tx.Xid+uint32(b[2]%8)/7, events+int(b[3]%8)/7)
			case 4, 5:
				f = k.few(oid)
			case 6:
				f = k.piece(256 - int(b[2]%8)/7)
			case 7, 8:
				f = k.into(oid, 3)
			case 9, 10:
				n := 3
				if pieces > 0 {
					n = (pieces-1)*256 + len(h.s.pieces[pieces-1])
				}
				f = k.into(oid, n)
			case 11:
				f = k.emptied(oid, oid+1+uint32(b[2])%2)
			case 12:
				f = k.emptied(oid)
			default:
				f = maker(1+b[2]%2).of(b[3]%10, b[4:6]...)
			}
			h.take(f)
		}
		h.isLog()
		told += len(h.told)
	}
	if told < 200 {
		t.Errorf("just %d transactions are told", told)
	}
}

func TestP173EachOrder(t *testing.T) {
	// Each way to lay four of some frames behind a begin.
	for k := maker(1); k <= 2; k++ {
		l := frames(k.begin(8), k.few(1), k.few(2), k.piece(100), k.into(1, 3), k.into(2, 100), k.emptied(1, 2), k.commit(7, 0), k.commit(7, 1))
		var all func(ahead []frame.Frame, n int)
		all = func(ahead []frame.Frame, n int) {
			if n == 0 {
				h := start(t, k.begin(7))
				for _, f := range ahead {
					h.take(f)
				}
				h.isLog()
				return
			}
			for _, f := range l {
				all(append(slices.Clip(ahead), f), n-1)
			}
		}
		all(nil, 4)
	}
}

func TestR1AnyFrames(t *testing.T) {
	for kind := range 256 {
		for version := range uint8(5) {
			for n, payload := range [][]byte{nil, {}, {0}, {255}, {1, 1}, {1, 1, 0}, sample.Mixed(20, uint32(kind)), sample.Mixed(4096, uint32(kind)), make([]byte, 70000), bytes.Repeat([]byte{255}, 300)} {
				place := []string{"new", "done", "open", "busy", "pieces", "fresh", "both"}[(kind+n)%7]
				h := start(t, places(1)[place]...)
				f := frame.Frame{Version: version, Kind: uint8(kind), Payload: payload}
				h.take(f)
				h.take(f)
				h.take(maker(1).commit(7, 0))
			}
		}
	}
	for seed := range uint32(3000) {
		h := start(t, places(2)["fresh"]...)
		for n := range uint32(6) {
			b := sample.Mixed(int(seed%40), (seed*7+n)*7919)
			if len(b) > 1 && n%2 == 0 {
				b[0], b[1] = 1+b[0]%3, 1
			}
			h.take(maker(2).of(1+uint8(seed+n)%8, b...))
		}
	}
}

func TestR3NilAndEmpty(t *testing.T) {
	for k := maker(1); k <= 2; k++ {
		one, two := start(t, places(k)["busy"]...), start(t, places(k)["busy"]...)
		for kind := uint8(1); kind <= 8; kind++ {
			x, y := k.of(kind), k.of(kind)
			x.Payload, y.Payload = nil, []byte{}
			if e, g := one.take(x), two.take(y); e != g {
				t.Errorf("a %s: error %d, not %d", frame.Name(kind), e, g)
			}
		}
	}
}

func TestR4HandedIn(t *testing.T) {
	// A frame's payload is changed as soon as it is taken.
	for version := uint8(1); version <= 2; version++ {
		logs(t, version, func(c *catalog.Catalog, l []event.Tx, log []frame.Frame) {
			m := order.New()
			var told []event.Tx
			for _, f := range log {
				kept := bytes.Clone(f.Payload)
				o, whole, e := m.Take(f)
				if e != api.OK || !bytes.Equal(f.Payload, kept) {
					t.Fatalf("a %s: error %d, or its payload is changed", frame.Name(f.Kind), e)
				}
				clear(f.Payload)
				_ = append(f.Payload, 9)
				if whole {
					told = append(told, o)
				}
			}
			if !slices.EqualFunc(told, l, sample.EqualTx) || !m.Catalog().Same(fit.Only(c, l...)) {
				t.Fatal("a frame's payload is kept")
			}
		})
	}
}

func TestR4HandedOut(t *testing.T) {
	// What is told is changed, and so are the catalogs, as soon as they are told.
	for version := uint8(1); version <= 2; version++ {
		logs(t, version, func(c *catalog.Catalog, l []event.Tx, log []frame.Frame) {
			m := order.New()
			at := 0
			for _, f := range log {
				o, whole, e := m.Take(f)
				if e != api.OK || whole && !sample.EqualTx(o, l[at]) {
					t.Fatalf("transaction %d: error %d, or another one", at, e)
				}
				if whole {
					at++
				}
				for _, v := range o.Events {
					clear(v.Before)
					clear(v.After)
					clear(v.Refs)
				}
				clear(o.Events)
				_ = append(o.Events, event.Event{Kind: 9})
				given := m.Catalog()
				for given.Len() < 64 {
					given.Add(sample.At(few[0], 1000, uint32(given.Len())+1))
				}
				for _, r := range given.All() {
					clear(r.Columns)
				}
				if !m.Catalog().Same(fit.Only(c, l[:at]...)) {
					t.Fatalf("behind transaction %d: a catalog changes what is kept", at)
				}
			}
		})
	}
}

func TestR4Told(t *testing.T) {
	// What is told does not change with what comes behind it.
	k := maker(1)
	h := start(t, filled(k, 3, 2)...)
	c := h.m.Catalog()
	one, _, _ := h.m.Take(k.commit(7, 2))
	kept := event.Tx{Xid: one.Xid, Stamp: one.Stamp}
	for _, v := range one.Events {
		kept.Events = append(kept.Events, v.Copy())
	}
	for _, f := range frames(k.begin(8), k.few(70), k.into(70, 3), k.into(1, 9), k.emptied(2), k.commit(8, 3)) {
		h.m.Take(f)
	}
	if !sample.EqualTx(one, kept) || !c.Same(sample.Catalog(few[:3]...)) || h.m.Catalog().Len() != 6 {
		t.Error("what was told changes")
	}
}

func TestR6TwoMachines(t *testing.T) {
	k := maker(1)
	one, two := start(t), start(t)
	for n, f := range filled(k, 6, 4) {
		one.take(f)
		if n%2 == 0 {
			two.take(f)
		}
		two.take(maker(2).of(1+uint8(n%8), f.Payload...))
	}
	if one.take(k.commit(7, 4)) != api.OK || one.m.Catalog().Len() != 10 || one.m.Version() != 1 {
		t.Errorf("%d relations, version %d", one.m.Catalog().Len(), one.m.Version())
	}
	// The same frames once more tell the same.
	again := start(t, one.took...)
	if !slices.EqualFunc(again.told, one.told, sample.EqualTx) || !again.m.Catalog().Same(one.m.Catalog()) {
		t.Error("another story of the same frames")
	}
}

func TestExamples(t *testing.T) {
	for k := maker(1); k <= 2; k++ {
		if _, _, e := order.New().Take(k.commit(5, 0)); e != api.ErrOrder {
			t.Errorf("a commit first: error %d", e)
		}
		m := order.New()
		for n, f := range frames(k.begin(5), k.few(1), k.commit(5, 0)) {
			o, whole, e := m.Take(f)
			if want := []api.Errno{api.OK, api.OK, api.ErrOrder}[n]; e != want || whole || o.Events != nil {
				t.Errorf("frame %d: error %d", n, e)
			}
		}
		// Of the whole: a transaction without events; a frame of another version; a relation that no event uses.
		h := start(t, k.begin(5), k.commit(5, 0))
		if h.told[0].Xid != 5 || h.told[0].Events != nil {
			t.Errorf("%v", h.told)
		}
		if h.take((3-k).begin(6)) != api.ErrVersion || h.take(k.begin(6)) != api.OK || h.take(k.few(1)) != api.OK || h.take(k.commit(6, 0)) != api.ErrOrder {
			t.Error("the examples of the whole")
		}
	}
}
