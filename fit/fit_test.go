package fit_test

import (
	"math"
	"slices"
	"strconv"
	"strings"
	"testing"

	"lacuna/api"
	"lacuna/catalog"
	"lacuna/event"
	"lacuna/fit"
	"lacuna/frame"
	"lacuna/image"
	"lacuna/rel"
	"lacuna/row"
	"lacuna/sample"
)

// Short names of what is made most often.
var (
	of       = sample.Cells
	ref      = sample.Ref
	insert   = sample.Insert
	truncate = sample.Truncate
	tx       = sample.Tx

	fine = fit.Fault{Tx: -1, Event: -1, Err: api.OK}
)

// known is a catalog of relations.
func known(t *testing.T, l ...rel.Rel) *catalog.Catalog {
	t.Helper()
	c, _, e := catalog.Of(l...)
	if e != api.OK {
		t.Fatalf("no catalog: error %d", e)
	}
	return c
}

// rels are n relations of a text, of the oids from 1 on.
func rels(n uint32) []rel.Rel {
	var l []rel.Rel
	for oid := range n {
		l = append(l, sample.At(sample.Texts(1, rel.Nothing), 1+oid, 1))
	}
	return l
}

// Events of the first of rels, right ones and wrong ones.
var (
	right   = insert(ref(1, 1), of("a"))
	kind    = event.Event{Kind: frame.Commit}
	missing = insert(ref(9, 9), of("a"))
	count   = insert(ref(1, 1), of("a", "b"))
	order   = truncate(0, ref(2, 1), ref(1, 1))
	flags   = truncate(4, ref(1, 1))
)

// many are right events, and others behind them.
func many(n int, l ...event.Event) []event.Event {
	return slices.Concat(slices.Repeat([]event.Event{right}, n), l)
}

// checkByWords is what P14.1 says that Check answers.
func checkByWords(c *catalog.Catalog, l []event.Tx) fit.Fault {
	var ahead []uint32
	for place, t := range l {
		if n := len(ahead); n > 0 && !(t.Xid > ahead[n-1]) {
			return fit.Fault{Tx: place, Event: -1, Err: 15}
		}
		ahead = append(ahead, t.Xid)
		if at, e := t.Right(c); e != 0 {
			return fit.Fault{Tx: place, Event: at, Err: e}
		}
	}
	return fit.Fault{Tx: -1, Event: -1}
}

// onlyByWords are the relations that P14.2 says that Only's catalog has, in order.
func onlyByWords(c *catalog.Catalog, l []event.Tx) []rel.Rel {
	var o []rel.Rel
	for at, r := range c.All() {
		uses := func(v event.Event) bool { return slices.Contains(v.Uses(), at) }
		if slices.ContainsFunc(l, func(t event.Tx) bool { return slices.ContainsFunc(t.Events, uses) }) {
			o = append(o, r)
		}
	}
	return o
}

// has: has a catalog just these relations, in order?
func has(c *catalog.Catalog, l []rel.Rel) bool {
	var o []rel.Rel
	for _, r := range c.All() {
		o = append(o, r)
	}
	return slices.EqualFunc(o, l, sample.EqualRel) && c.Len() == len(l)
}

func TestP141Check(t *testing.T) {
	c := known(t, rels(3)...)
	for _, x := range []struct {
		name string
		l    []event.Tx
		want fit.Fault
	}{
		{"no transactions", nil, fine},
		{"one without events", []event.Tx{tx(1)}, fine},
		{"one of the greatest number", []event.Tx{tx(math.MaxUint32, right)}, fine},
		{"numbers that rise", []event.Tx{tx(1, right), tx(2), tx(3, right, right)}, fine},
		{"numbers that rise by far", []event.Tx{tx(1), tx(1 << 31), tx(math.MaxUint32)}, fine},
		{"stamps that fall", []event.Tx{{Xid: 1, Stamp: 9}, {Xid: 2, Stamp: 8}}, fine},
		{"512 events", []event.Tx{tx(1, many(512)...), tx(2, many(512)...)}, fine},

		{"two alike", []event.Tx{tx(3), tx(3)}, fit.Fault{Tx: 1, Event: -1, Err: api.ErrOrder}},
		{"two that fall", []event.Tx{tx(3), tx(2)}, fit.Fault{Tx: 1, Event: -1, Err: api.ErrOrder}},
		{"two great ones that fall", []event.Tx{tx(math.MaxUint32), tx(1)}, fit.Fault{Tx: 1, Event: -1, Err: api.ErrOrder}},
		{"the last one alike", []event.Tx{tx(1), tx(2), tx(2)}, fit.Fault{Tx: 2, Event: -1, Err: api.ErrOrder}},
		{"the last one falls behind the one ahead of it alone", []event.Tx{tx(1), tx(5), tx(3)}, fit.Fault{Tx: 2, Event: -1, Err: api.ErrOrder}},
		{"the one between falls", []event.Tx{tx(4), tx(3), tx(5)}, fit.Fault{Tx: 1, Event: -1, Err: api.ErrOrder}},
		{"two fall", []event.Tx{tx(4), tx(3), tx(2)}, fit.Fault{Tx: 1, Event: -1, Err: api.ErrOrder}},
		{"far behind", []event.Tx{tx(1), tx(2), tx(3), tx(4), tx(5), tx(1)}, fit.Fault{Tx: 5, Event: -1, Err: api.ErrOrder}},

		{"the number 0 first", []event.Tx{tx(0)}, fit.Fault{Tx: 0, Event: -1, Err: api.ErrRange}},
		{"the number 0 ahead of others", []event.Tx{tx(0), tx(1), tx(2)}, fit.Fault{Tx: 0, Event: -1, Err: api.ErrRange}},
		{"the number 0 behind another one", []event.Tx{tx(1), tx(0)}, fit.Fault{Tx: 1, Event: -1, Err: api.ErrOrder}},
		{"the number 0 twice", []event.Tx{tx(0), tx(0)}, fit.Fault{Tx: 0, Event: -1, Err: api.ErrRange}},
		{"513 events", []event.Tx{tx(1, many(513)...)}, fit.Fault{Tx: 0, Event: -1, Err: api.ErrFull}},
		{"513 events behind another one", []event.Tx{tx(1, many(512)...), tx(2, many(513)...)}, fit.Fault{Tx: 1, Event: -1, Err: api.ErrFull}},

		{"the first event of the first", []event.Tx{tx(1, kind, right), tx(2)}, fit.Fault{Tx: 0, Event: 0, Err: api.ErrKind}},
		{"the last event of the first", []event.Tx{tx(1, right, right, missing)}, fit.Fault{Tx: 0, Event: 2, Err: api.ErrMissing}},
		{"the first event of the last", []event.Tx{tx(1, right), tx(2), tx(3, count)}, fit.Fault{Tx: 2, Event: 0, Err: api.ErrCount}},
		{"the last event of the last", []event.Tx{tx(1, right), tx(2, right, order)}, fit.Fault{Tx: 1, Event: 1, Err: api.ErrOrder}},
		{"the 512th event", []event.Tx{tx(1), tx(2, many(511, flags)...)}, fit.Fault{Tx: 1, Event: 511, Err: api.ErrRange}},
		{"two events of one", []event.Tx{tx(1, right, flags, kind)}, fit.Fault{Tx: 0, Event: 1, Err: api.ErrRange}},

		{"an event ahead of an event", []event.Tx{tx(1, flags), tx(2, kind)}, fit.Fault{Tx: 0, Event: 0, Err: api.ErrRange}},
		{"an event ahead of a number", []event.Tx{tx(1, right, order), tx(1)}, fit.Fault{Tx: 0, Event: 1, Err: api.ErrOrder}},
		{"a number ahead of an event", []event.Tx{tx(2), tx(2), tx(3, kind)}, fit.Fault{Tx: 1, Event: -1, Err: api.ErrOrder}},
		{"a number, and an event, of one", []event.Tx{tx(2), tx(2, kind)}, fit.Fault{Tx: 1, Event: -1, Err: api.ErrOrder}},
		{"a number that falls, and 513 events, of one", []event.Tx{tx(2), tx(1, many(513)...)}, fit.Fault{Tx: 1, Event: -1, Err: api.ErrOrder}},
		{"the number 0, and an event, of one that is first", []event.Tx{tx(0, kind), tx(0)}, fit.Fault{Tx: 0, Event: -1, Err: api.ErrRange}},
		{"the number 0, and an event, of one behind another one", []event.Tx{tx(7, right), tx(0, kind)}, fit.Fault{Tx: 1, Event: -1, Err: api.ErrOrder}},
		{"513 events ahead of a number", []event.Tx{tx(5, many(513, kind)...), tx(4)}, fit.Fault{Tx: 0, Event: -1, Err: api.ErrFull}},
	} {
		if f := fit.Check(c, x.l...); f != x.want {
			t.Errorf("%s: %v, not %v", x.name, f, x.want)
		}
		if fits := fit.Fits(c, x.l...); fits != (x.want == fine) {
			t.Errorf("%s: fits: %t", x.name, fits)
		}
	}
}

// stories are such as fit Shapes, and what is not far from them.
func stories() [][]event.Tx {
	var l [][]event.Tx
	for seed := range uint32(15) {
		story := sample.Txs(sample.Shapes(), 12, 1000*seed)
		l = append(l, story)
		for k := range story {
			b := sample.Mixed(3, 50*seed+uint32(k))
			for _, turn := range []func(x *event.Tx){
				func(x *event.Tx) { x.Xid = story[int(b[0])%len(story)].Xid },
				func(x *event.Tx) { x.Xid = 0 },
				func(x *event.Tx) { x.Events = slices.Insert(x.Events, int(b[1])%(len(x.Events)+1), missing) },
				func(x *event.Tx) { x.Xid, x.Events = 1, append(x.Events, kind) },
			} {
				o := sample.Txs(sample.Shapes(), 12, 1000*seed)
				turn(&o[k])
				other := slices.Clone(o)
				turn(&other[int(b[2])%len(o)])
				l = append(l, o, other)
			}
		}
	}
	return l
}

func TestP141ByItsWords(t *testing.T) {
	c, found := known(t, sample.Shapes()...), map[fit.Fault]int{}
	for _, l := range stories() {
		want := checkByWords(c, l)
		if f := fit.Check(c, l...); f != want {
			t.Fatalf("%v, not %v", f, want)
		}
		if fits := fit.Fits(c, l...); fits != (want.Err == api.OK) {
			t.Fatalf("%v: fits: %t", want, fits)
		}
		found[want]++
	}
	if len(found) < 30 || found[fine] < 15 {
		t.Errorf("%v", found)
	}
}

func TestP141Compared(t *testing.T) {
	l := []fit.Fault{{}, {Tx: -1, Event: -1}, {Tx: 1}, {Event: 1}, {Err: 1}, {Tx: 1, Event: 1, Err: 1}, {Tx: 1, Event: -1, Err: api.ErrOrder}, {Tx: 1, Event: -1, Err: api.ErrRange}, {Tx: 2, Event: -1, Err: api.ErrOrder}, {Tx: 1, Event: 0, Err: api.ErrOrder}}
	for k, f := range l {
		for j, o := range slices.Clone(l) {
			if (f == o) != (k == j) {
				t.Errorf("%v and %v: %t", f, o, f == o)
			}
		}
	}
	c := known(t, rels(1)...)
	if fit.Check(c, tx(2), tx(1, kind)) != fit.Check(c, tx(5, right), tx(5)) {
		t.Error("the same fault of two stories is not the same")
	}
	if fit.Check(c, tx(2), tx(1)) == fit.Check(c, tx(2), tx(3), tx(1)) || fit.Check(c, tx(1, kind)) == fit.Check(c, tx(1, missing)) || fit.Check(c, tx(1, kind)) == fit.Check(c, tx(1, right, kind)) {
		t.Error("faults that differ are the same")
	}
	if places := map[fit.Fault]int{fit.Check(c): 1}; places[fine] != 1 {
		t.Error("a fault as a key")
	}
}

func TestP142Only(t *testing.T) {
	l := rels(9)
	c := known(t, l...)
	for _, x := range []struct {
		name string
		l    []event.Tx
		want []rel.Rel
	}{
		{"no transactions", nil, nil},
		{"one without events", []event.Tx{tx(1)}, nil},
		{"the first one", []event.Tx{tx(1, right)}, l[:1]},
		{"the last one", []event.Tx{tx(1, insert(ref(9, 1), of("a")))}, l[8:]},
		{"one between, twice", []event.Tx{tx(1, insert(ref(4, 1), of("a"))), tx(2, insert(ref(4, 1), of("b")))}, l[3:4]},
		{"two, out of order", []event.Tx{tx(1, insert(ref(9, 1), nil)), tx(2, right)}, []rel.Rel{l[0], l[8]}},
		{"a truncate of three", []event.Tx{tx(1, truncate(0, ref(2, 1), ref(4, 1), ref(6, 1)))}, []rel.Rel{l[1], l[3], l[5]}},
		{"all, by truncates", []event.Tx{tx(1, truncate(0, ref(1, 1), ref(2, 1), ref(3, 1), ref(4, 1), ref(5, 1), ref(6, 1), ref(7, 1), ref(8, 1))), tx(2, truncate(0, ref(9, 1)))}, l},
		{"none that is there", []event.Tx{tx(1, missing)}, nil},
		{"one that is there, one that is not", []event.Tx{tx(1, missing, right)}, l[:1]},
		{"one that is there, one that is not, turned round", []event.Tx{tx(1, right), tx(2, missing)}, l[:1]},
		{"some that are not there", []event.Tx{tx(1, truncate(0, ref(1, 1), ref(1, 2), ref(2, 1), ref(2, 2), ref(99, 1)))}, l[:2]},
		{"another version", []event.Tx{tx(1, insert(ref(1, 2), nil))}, nil},
		{"the zero ref", []event.Tx{tx(1, insert(rel.Ref{}, nil))}, nil},
		{"an event of no kind", []event.Tx{tx(1, event.Event{At: ref(1, 1), Refs: []rel.Ref{ref(2, 1)}})}, nil},
		{"a story that does not fit", []event.Tx{tx(0, order), tx(0, flags)}, l[:2]},
		{"a truncate with a ref At", []event.Tx{tx(1, event.Event{Kind: frame.Truncate, At: ref(3, 1), Refs: []rel.Ref{ref(2, 1)}})}, l[1:2]},
	} {
		o := fit.Only(c, x.l...)
		if !has(o, x.want) {
			t.Errorf("%s: it has %d relations", x.name, o.Len())
		}
		// Of just what is used nothing is left out.
		if p := fit.Only(o, x.l...); !p.Same(o) {
			t.Errorf("%s: Only of it has %d relations, not %d", x.name, p.Len(), o.Len())
		}
		if o := fit.Only(catalog.New(), x.l...); o.Len() != 0 {
			t.Errorf("%s: of no relations it has %d", x.name, o.Len())
		}
		if !has(c, l) {
			t.Fatalf("%s: the catalog is changed", x.name)
		}
	}
}

func TestP142OnlyOfAFullCatalog(t *testing.T) {
	l := rels(api.MaxRels)
	c := known(t, l...)
	var all []event.Event
	for _, r := range slices.Backward(l) {
		all = append(all, insert(r.Ref, of("a")), insert(ref(r.Oid, 2), of("a")))
	}
	if o := fit.Only(c, tx(1, all...)); !has(o, l) || o.Add(sample.At(l[0], 1, 2)) != api.ErrFull {
		t.Errorf("it has %d relations", o.Len())
	}
}

func TestP142OnlyByItsWords(t *testing.T) {
	c, sizes := known(t, sample.Shapes()...), map[int]int{}
	for _, l := range stories() {
		for n := range len(l) {
			o, want := fit.Only(c, l[:n]...), onlyByWords(c, l[:n])
			if !has(o, want) {
				t.Fatalf("it has %d relations, not %d", o.Len(), len(want))
			}
			sizes[o.Len()]++
		}
	}
	for n := range 9 {
		if sizes[n] == 0 {
			t.Errorf("none has %d relations", n)
		}
	}
}

func TestP142Error(t *testing.T) {
	for _, x := range []struct {
		f    fit.Fault
		want string
	}{
		{fine, "fine"},
		{fit.Fault{}, "fine"},
		{fit.Fault{Tx: 7, Event: 8}, "fine"},
		{fit.Fault{Tx: -9, Event: 1 << 40}, "fine"},
		{fit.Fault{Tx: 0, Event: 0, Err: 1}, "transaction 0 event 0 error 1"},
		{fit.Fault{Tx: 0, Event: -1, Err: api.ErrRange}, "transaction 0 error 4"},
		{fit.Fault{Tx: 1, Event: -1, Err: api.ErrOrder}, "transaction 1 error 15"},
		{fit.Fault{Tx: 12, Event: 345, Err: api.ErrOp}, "transaction 12 event 345 error 20"},
		{fit.Fault{Tx: 1000000, Event: 511, Err: 123456789}, "transaction 1000000 event 511 error 123456789"},
		{fit.Fault{Tx: -1, Event: -1, Err: api.ErrVersion}, "transaction -1 error 18"},
		{fit.Fault{Tx: -1, Event: 5, Err: api.ErrKind}, "transaction -1 event 5 error 7"},
		{fit.Fault{Tx: -2, Event: -2, Err: -3}, "transaction -2 event -2 error -3"},
		{fit.Fault{Tx: 3, Event: 1, Err: -1}, "transaction 3 event 1 error -1"},
		{fit.Fault{Tx: math.MaxInt, Event: math.MinInt, Err: math.MaxInt}, "transaction 9223372036854775807 event -9223372036854775808 error 9223372036854775807"},
	} {
		if s := x.f.Error(); s != x.want {
			t.Errorf("%s, not %s", s, x.want)
		}
		// A fault is an error.
		var err error = x.f
		if err.Error() != x.want {
			t.Errorf("%s, not %s", err.Error(), x.want)
		}
	}
}

func TestP142ErrorByItsWords(t *testing.T) {
	for _, place := range []int{-2, -1, 0, 1, 9, 10, 511, 65536} {
		for _, at := range []int{-10, -2, -1, 0, 1, 9, 10, 511} {
			for e := api.ErrShort; e <= api.ErrOp; e++ {
				words := []string{"transaction", strconv.Itoa(place), "event", strconv.Itoa(at), "error", strconv.Itoa(int(e))}
				if at == -1 {
					words = slices.Delete(words, 2, 4)
				}
				if s := (fit.Fault{Tx: place, Event: at, Err: e}).Error(); s != strings.Join(words, " ") {
					t.Fatalf("%s, not %v", s, words)
				}
			}
		}
	}
}

func TestP143Beginnings(t *testing.T) {
	c, fits := known(t, sample.Shapes()...), 0
	for _, l := range stories() {
		if !fit.Fits(c, l...) {
			continue
		}
		all := fit.Only(c, l...)
		for n := range len(l) + 1 {
			few := fit.Only(c, l[:n]...)
			for _, o := range []*catalog.Catalog{c, all, few} {
				if f := fit.Check(o, l[:n]...); f != fine {
					t.Fatalf("the first %d of %d: %v", n, len(l), f)
				}
			}
			// Of the beginning's catalog, and the whole one's, is just the same used.
			if !fit.Only(all, l[:n]...).Same(few) {
				t.Fatalf("the first %d of %d: another catalog", n, len(l))
			}
			fits++
		}
		// Without one that is used it does not fit.
		for at := range all.All() {
			var rest []rel.Rel
			for other, r := range all.All() {
				if other != at {
					rest = append(rest, r)
				}
			}
			if f := fit.Check(known(t, rest...), l...); f.Err != api.ErrMissing {
				t.Fatalf("without %v: %v", at, f)
			}
		}
	}
	if fits < 150 {
		t.Errorf("%d beginnings", fits)
	}
}

func TestR1AnyArguments(t *testing.T) {
	great := slices.Repeat([]rel.Ref{ref(math.MaxUint32, 0), {}, ref(1, 1)}, 3000)
	cells := slices.Concat(sample.WrongCells(5), sample.RightCells(2))
	for _, c := range []*catalog.Catalog{catalog.New(), known(t, rels(2)...), known(t, sample.Shapes()...)} {
		for kind := range 256 {
			v := event.Event{Kind: uint8(kind), At: ref(uint32(kind), 1), Old: uint8(kind % 3), Before: cells, After: cells[:1], Refs: great, Flags: uint8(kind)}
			l := []event.Tx{tx(1), tx(uint32(kind), v, right), {Stamp: math.MaxUint64}, tx(5, v)}
			for n := range len(l) + 1 {
				if f := fit.Check(c, l[:n]...); f != checkByWords(c, l[:n]) || fit.Fits(c, l[:n]...) != (f == fine) {
					t.Fatalf("kind %d, the first %d: %v", kind, n, f)
				}
				if o := fit.Only(c, l[:n]...); !has(o, onlyByWords(c, l[:n])) {
					t.Fatalf("kind %d, the first %d: it has %d relations", kind, n, o.Len())
				}
			}
		}
	}
	var many []event.Tx
	for xid := range uint32(100000) {
		many = append(many, tx(xid+1))
	}
	c := catalog.New()
	if !fit.Fits(c, many...) || fit.Check(c, append(many, tx(100000))...) != (fit.Fault{Tx: 100000, Event: -1, Err: api.ErrOrder}) {
		t.Error("many transactions")
	}
}

func TestR3NoneAndEmpty(t *testing.T) {
	c := known(t, rels(2)...)
	if fit.Check(c) != fit.Check(c, []event.Tx{}...) || !fit.Fits(c) || !fit.Fits(c, []event.Tx{}...) || fit.Only(c, []event.Tx{}...).Len() != 0 {
		t.Error("no transactions")
	}
	empty := event.Tx{Xid: 1, Events: []event.Event{}}
	if fit.Check(c, empty) != fine || fit.Check(c, tx(1)) != fine || fit.Only(c, empty).Len() != 0 {
		t.Error("no events")
	}
	hollow := right
	hollow.Before, hollow.Refs = row.Row{}, []rel.Ref{}
	if fit.Check(c, tx(1, hollow)) != fine || !fit.Only(c, tx(1, hollow)).Same(fit.Only(c, tx(1, right))) {
		t.Error("lists that are empty")
	}
}

func TestR4HandedIn(t *testing.T) {
	l, kept := sample.Txs(sample.Shapes(), 9, 4), sample.Txs(sample.Shapes(), 9, 4)
	l, kept = append(l, tx(1, truncate(0, ref(2, 1), ref(1, 2), ref(1, 1)))), append(kept, tx(1, truncate(0, ref(2, 1), ref(1, 2), ref(1, 1))))
	c := known(t, sample.Shapes()...)
	fit.Check(c, l...)
	fit.Fits(c, l...)
	o := fit.Only(c, l...)
	want := onlyByWords(c, kept)
	if !slices.EqualFunc(l, kept, sample.EqualTx) || !has(c, sample.Shapes()) {
		t.Fatal("what is handed in is changed")
	}
	// What was handed in is changed afterwards.
	for _, x := range l {
		clear(x.Events)
	}
	c.Add(sample.At(sample.Texts(1, rel.Nothing), 77, 1))
	if !has(o, want) {
		t.Errorf("it has %d relations, not %d", o.Len(), len(want))
	}
}

func TestR4HandedOut(t *testing.T) {
	c := known(t, rels(2)...)
	l := []event.Tx{tx(1, truncate(0, ref(1, 1), ref(2, 1)))}
	// Just what is used: an answer is like what was handed in, and yet another catalog.
	one, two := fit.Only(c, l...), fit.Only(c, l...)
	extra := sample.At(sample.Texts(3, rel.Key, 1), 5, 5)
	if e := one.Add(extra); e != api.OK {
		t.Fatalf("error %d", e)
	}
	if !has(c, rels(2)) || !has(two, rels(2)) || !has(one, append(rels(2), extra)) {
		t.Error("an answer is the catalog that was handed in, or another answer")
	}
	c.Add(sample.At(extra, 6, 6))
	if !has(two, rels(2)) || one.Len() != 3 {
		t.Error("an answer changes with the catalog")
	}
	if a, b := fit.Only(catalog.New()), fit.Only(catalog.New()); a == b || a.Add(extra) != api.OK || b.Len() != 0 {
		t.Error("two answers that have nothing are one")
	}
}

func TestR6Again(t *testing.T) {
	c := known(t, rels(2)...)
	for range 3 {
		if f := fit.Check(c, tx(3, right), tx(3)); f != (fit.Fault{Tx: 1, Event: -1, Err: api.ErrOrder}) {
			t.Errorf("%v", f)
		}
		if f := fit.Check(c, tx(3, right)); f != fine {
			t.Errorf("%v", f)
		}
	}
	// What is added to a catalog counts from then on.
	l := []event.Tx{tx(1, insert(ref(9, 9), of("a")))}
	if fit.Fits(c, l...) || fit.Only(c, l...).Len() != 0 {
		t.Error("it fits, or has a relation that is not there")
	}
	c.Add(sample.At(rels(1)[0], 9, 9))
	if !fit.Fits(c, l...) || fit.Only(c, l...).Len() != 1 {
		t.Error("it does not fit, or has no relation")
	}
}

func TestExamples(t *testing.T) {
	r := rel.Rel{Ref: rel.Ref{Oid: 1, Version: 1}, Name: "t", Identity: rel.Full, Columns: sample.Texts(1, rel.Full).Columns}
	for _, l := range [][]event.Tx{
		{tx(3), tx(3)},
		{tx(3, insert(r.Ref, of("a"))), tx(3, sample.Delete(r.Ref, image.Full, of("a")))},
	} {
		if s := fit.Check(known(t, r), l...).Error(); s != "transaction 1 error 15" {
			t.Error(s)
		}
	}
}
