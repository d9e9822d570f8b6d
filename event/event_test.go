package event_test

import (
	"math"
	"slices"
	"strings"
	"testing"

	"lacuna/api"
	"lacuna/catalog"
	"lacuna/cell"
	"lacuna/event"
	"lacuna/frame"
	"lacuna/image"
	"lacuna/rel"
	"lacuna/row"
	"lacuna/sample"
	"lacuna/value"
)

// Short names of what is made most often.
var (
	of       = sample.Cells
	put      = sample.Put
	ref      = sample.Ref
	insert   = sample.Insert
	update   = sample.Update
	gone     = sample.Delete
	truncate = sample.Truncate
	tx       = sample.Tx

	null     = cell.Cell{}
	same     = cell.Cell{Kind: cell.Same}
	noKind   = cell.Cell{Kind: 3}
	negative = math.Copysign(0, -1)
	nan      = math.Float64frombits(0x7FF8000000000001)
	otherNaN = math.Float64frombits(0x7FF8000000000002)
)

// The relations of these tests, by their identities; of none there is no relation.
var (
	byKey     = ref(1, 2)
	byFull    = ref(2, 1)
	byNothing = ref(2, 2)
	none      = ref(3, 3)
)

// rels are the relations of these tests, in order: three with an int that is the key, a text and a bool, and others behind them.
func rels() []rel.Rel {
	r := sample.Rel(value.Int, value.Text, value.Bool)
	l := []rel.Rel{
		sample.At(sample.Keyed(r, rel.Key, 0), 1, 2),
		sample.At(sample.Keyed(r, rel.Full, 0), 2, 1),
		sample.At(sample.Keyed(r, rel.Nothing, 0), 2, 2),
	}
	for oid := range uint32(9) {
		l = append(l, sample.At(sample.Texts(1, rel.Nothing), 10+oid, 1))
	}
	return l
}

// known is a catalog of relations.
func known(t *testing.T, l []rel.Rel) *catalog.Catalog {
	t.Helper()
	c, _, e := catalog.Of(l...)
	if e != api.OK {
		t.Fatalf("no catalog: error %d", e)
	}
	return c
}

// more are n of the refs behind the three.
func more(n uint32) []rel.Ref {
	var l []rel.Ref
	for oid := range n {
		l = append(l, ref(10+oid, 1))
	}
	return l
}

// of3 is a row of the three relations.
func of3(key int64, text string, b int64) row.Row {
	return row.Row{sample.Int(key), sample.Text(text), sample.Bool(b)}
}

// keyOf is a key image of the three relations.
func keyOf(key int64) row.Row { return row.Row{sample.Int(key), null, null} }

// usesByWords is what P13.1 says that Uses answers.
func usesByWords(v event.Event) []rel.Ref {
	return map[uint8][]rel.Ref{4: {v.At}, 5: {v.At}, 6: {v.At}, 7: v.Refs}[v.Kind]
}

// ahead: does a ref stand ahead of another one?
func ahead(a, b rel.Ref) bool {
	return a.Oid < b.Oid || a.Oid == b.Oid && a.Version < b.Version
}

// find is the relation of a ref.
func find(l []rel.Rel, at rel.Ref) (rel.Rel, bool) {
	for _, r := range l {
		if r.Oid == at.Oid && r.Version == at.Version {
			return r, true
		}
	}
	return rel.Rel{}, false
}

// rightByWords is what P13.1 says that Right answers by a catalog of these relations.
func rightByWords(l []rel.Rel, v event.Event) api.Errno {
	if v.Kind < 4 || v.Kind > 7 {
		return api.ErrKind
	}
	if v.Kind < 7 {
		if len(v.Refs) != 0 || v.Flags != 0 {
			return api.ErrForm
		}
		r, there := find(l, v.At)
		if !there {
			return api.ErrMissing
		}
		return image.Right(r, v.Kind, v.Old, v.Before, v.After)
	}
	if v.At.Oid != 0 || v.At.Version != 0 || v.Old != 0 || len(v.Before) != 0 || len(v.After) != 0 {
		return api.ErrForm
	}
	if n := len(v.Refs); n < 1 || n > 8 {
		return api.ErrCount
	}
	for k := range len(v.Refs) - 1 {
		if !ahead(v.Refs[k], v.Refs[k+1]) {
			return api.ErrOrder
		}
	}
	for _, at := range v.Refs {
		if _, there := find(l, at); !there {
			return api.ErrMissing
		}
	}
	if v.Flags > 3 {
		return api.ErrRange
	}
	return api.OK
}

// rightTxByWords is what P13.2 says that Right answers.
func rightTxByWords(l []rel.Rel, t event.Tx) (int, api.Errno) {
	if t.Xid < 1 {
		return -1, api.ErrRange
	}
	if len(t.Events) >= 513 {
		return -1, api.ErrFull
	}
	for k := range t.Events {
		if e := rightByWords(l, t.Events[k]); e != api.OK {
			return k, e
		}
	}
	return -1, api.OK
}

// usedByWords is what P13.2 says that Used answers.
func usedByWords(l []event.Tx) []rel.Ref {
	var refs []rel.Ref
	for _, t := range l {
		for _, v := range t.Events {
			for _, at := range usesByWords(v) {
				k := 0
				for k < len(refs) && ahead(refs[k], at) {
					k++
				}
				if k == len(refs) || refs[k] != at {
					refs = slices.Insert(refs, k, at)
				}
			}
		}
	}
	return refs
}

// told is an event, and what is wrong with it.
type told struct {
	name string
	v    event.Event
	e    api.Errno
}

// hold holds Right against a table.
func hold(t *testing.T, l []told) {
	t.Helper()
	c := known(t, rels())
	for _, x := range l {
		if e := x.v.Right(c); e != x.e {
			t.Errorf("%s: %d, not %d", x.name, e, x.e)
		}
	}
}

// with is an event that a function changed.
func with(v event.Event, change func(v *event.Event)) event.Event {
	change(&v)
	return v
}

func TestP131Uses(t *testing.T) {
	at, refs := ref(1, 2), []rel.Ref{ref(7, 1), ref(2, 9), ref(7, 1)}
	for _, x := range []struct {
		name string
		v    event.Event
		want []rel.Ref
	}{
		{"an insert", insert(at, of("a")), []rel.Ref{at}},
		{"an update", update(at, image.Key, of("a"), of("b")), []rel.Ref{at}},
		{"a delete", gone(at, image.Full, of("a")), []rel.Ref{at}},
		{"a truncate of one", truncate(0, at), []rel.Ref{at}},
		{"a truncate of two", truncate(3, at, ref(5, 1)), []rel.Ref{at, ref(5, 1)}},
		{"a truncate of none", truncate(0), nil},
		{"a truncate out of order", truncate(0, refs...), refs},
		{"a truncate of nine", truncate(0, more(9)...), more(9)},
		{"a truncate with a ref At", event.Event{Kind: frame.Truncate, At: at, Refs: refs}, refs},
		{"a truncate with a ref At alone", event.Event{Kind: frame.Truncate, At: at}, nil},
		{"an insert with refs", event.Event{Kind: frame.Insert, At: at, Refs: refs}, []rel.Ref{at}},
		{"an update with refs", event.Event{Kind: frame.Update, At: at, Refs: refs}, []rel.Ref{at}},
		{"a delete with refs", event.Event{Kind: frame.Delete, At: at, Refs: refs}, []rel.Ref{at}},
		{"an insert without a ref", event.Event{Kind: frame.Insert}, []rel.Ref{{}}},
		{"no event", event.Event{}, nil},
		{"a relation", event.Event{Kind: frame.Relation, At: at, Refs: refs}, nil},
		{"a piece", event.Event{Kind: frame.Piece, At: at, Refs: refs}, nil},
		{"a commit", event.Event{Kind: frame.Commit, At: at, Refs: refs}, nil},
		{"the kind 255", event.Event{Kind: 255, At: at, Refs: refs}, nil},
	} {
		if l := x.v.Uses(); !slices.Equal(l, x.want) {
			t.Errorf("%s: %v, not %v", x.name, l, x.want)
		}
	}
}

// changes are of one part of an event each: what comes of any two of them is not the same.
func changes() []func(v *event.Event) {
	return []func(v *event.Event){
		func(v *event.Event) {},
		func(v *event.Event) { v.Kind++ },
		func(v *event.Event) { v.Kind = 200 },
		func(v *event.Event) { v.At.Oid++ },
		func(v *event.Event) { v.At.Version++ },
		func(v *event.Event) { v.At = ref(77, 1) },
		func(v *event.Event) { v.Old++ },
		func(v *event.Event) { v.Old = 200 },
		func(v *event.Event) { v.Before = of("q", "q", "q", "q") },
		func(v *event.Event) { v.Before = slices.Concat(v.Before, row.Row{null}) },
		func(v *event.Event) { v.Before = slices.Concat(v.Before, row.Row{same}) },
		func(v *event.Event) { v.After = of("q", "q", "q", "q") },
		func(v *event.Event) { v.After = slices.Concat(row.Row{null}, v.After) },
		func(v *event.Event) { v.After = slices.Concat(row.Row{sample.Float(nan)}, v.After) },
		func(v *event.Event) { v.After = slices.Concat(row.Row{sample.Float(otherNaN)}, v.After) },
		func(v *event.Event) { v.After = slices.Concat(row.Row{sample.Float(0)}, v.After) },
		func(v *event.Event) { v.After = slices.Concat(row.Row{sample.Float(negative)}, v.After) },
		func(v *event.Event) { v.Refs = slices.Concat(v.Refs, []rel.Ref{{}}) },
		func(v *event.Event) { v.Refs = slices.Concat(v.Refs, []rel.Ref{ref(88, 1)}) },
		func(v *event.Event) { v.Refs = slices.Concat(v.Refs, []rel.Ref{ref(88, 2)}) },
		func(v *event.Event) { v.Refs = slices.Concat([]rel.Ref{ref(88, 1)}, v.Refs, []rel.Ref{ref(99, 1)}) },
		func(v *event.Event) { v.Flags++ },
		func(v *event.Event) { v.Flags = 200 },
	}
}

// bases are events of all kinds, right and wrong, with and without rows and refs.
func bases() []event.Event {
	return []event.Event{
		{},
		insert(byKey, of3(1, "a", 0)),
		update(byKey, image.Key, keyOf(1), of3(2, "b", 1)),
		update(byNothing, image.None, nil, put(of3(2, "b", 1), 1, same)),
		gone(byFull, image.Full, of3(1, "a", 0)),
		truncate(0, more(1)...),
		truncate(2, more(8)...),
		truncate(2),
		{Kind: 9, At: byKey, Old: 7, Before: of("a", "-"), After: row.Row{noKind}, Refs: more(3), Flags: 9},
	}
}

func TestP131Alike(t *testing.T) {
	for n, v := range bases() {
		for k, one := range changes() {
			for j, other := range changes() {
				// Each is made anew, so that no memory is shared.
				a, b := with(v.Copy(), one), with(bases()[n], other)
				if a.Alike(b) != (k == j) || b.Alike(a) != (k == j) {
					t.Errorf("%v, changes %d and %d: %t", v, k, j, a.Alike(b))
				}
			}
		}
	}
}

func TestP131AlikeRows(t *testing.T) {
	// What stands ahead is not what stands behind.
	a, b := of("a", "b"), of("a", "c")
	if update(byKey, image.Full, a, b).Alike(update(byKey, image.Full, b, a)) {
		t.Error("rows turned round")
	}
	if update(byKey, image.Full, a, nil).Alike(update(byKey, image.Full, nil, a)) || insert(byKey, a).Alike(gone(byKey, image.None, a)) {
		t.Error("a row ahead, and one behind")
	}
	if truncate(0, byKey, byFull).Alike(truncate(0, byFull, byKey)) || truncate(0, byKey).Alike(truncate(0, byKey, byKey)) {
		t.Error("refs in another order, or more often")
	}
	// Also cells that may not be.
	odd := cell.Cell{Kind: cell.Null, Value: value.Value{Int: 1}}
	if insert(byKey, row.Row{odd}).Alike(insert(byKey, row.Row{null})) || !insert(byKey, row.Row{odd}).Alike(insert(byKey, row.Row{odd})) {
		t.Error("cells that may not be")
	}
}

func TestP131RightTruncates(t *testing.T) {
	l := more(8)
	all := []rel.Ref{byKey, byFull, byNothing}
	hold(t, []told{
		{"of one", truncate(0, byKey), api.OK},
		{"of one by nothing", truncate(0, byNothing), api.OK},
		{"of three", truncate(1, all...), api.OK},
		{"of seven", truncate(2, l[:7]...), api.OK},
		{"of eight", truncate(3, l...), api.OK},
		{"of the last one", truncate(3, ref(18, 1)), api.OK},
		{"rising by the version", truncate(0, byFull, byNothing), api.OK},
		{"rising by the oid alone", truncate(0, byKey, byFull), api.OK},
		{"lists that are empty", event.Event{Kind: frame.Truncate, Before: row.Row{}, After: row.Row{}, Refs: all}, api.OK},

		{"an oid At", event.Event{Kind: frame.Truncate, At: ref(1, 0), Refs: all}, api.ErrForm},
		{"a version At", event.Event{Kind: frame.Truncate, At: ref(0, 1), Refs: all}, api.ErrForm},
		{"a ref At", event.Event{Kind: frame.Truncate, At: byKey, Refs: all}, api.ErrForm},
		{"an old image's kind", event.Event{Kind: frame.Truncate, Old: image.Key, Refs: all}, api.ErrForm},
		{"an old image's kind 255", event.Event{Kind: frame.Truncate, Old: 255, Refs: all}, api.ErrForm},
		{"cells before", event.Event{Kind: frame.Truncate, Before: row.Row{null}, Refs: all}, api.ErrForm},
		{"cells after", event.Event{Kind: frame.Truncate, After: row.Row{null}, Refs: all}, api.ErrForm},

		{"no ref", truncate(0), api.ErrCount},
		{"no ref, a list that is empty", event.Event{Kind: frame.Truncate, Refs: []rel.Ref{}}, api.ErrCount},
		{"nine", truncate(0, more(9)...), api.ErrCount},
		{"alike", truncate(0, byKey, byKey), api.ErrOrder},
		{"alike behind others", truncate(0, byKey, byFull, byNothing, byNothing), api.ErrOrder},
		{"alike, not side by side", truncate(0, byKey, byFull, byKey), api.ErrOrder},
		{"falling by the version", truncate(0, byNothing, byFull), api.ErrOrder},
		{"falling by the oid", truncate(0, byFull, byKey), api.ErrOrder},
		{"falling by the oid, with a version that rises", truncate(0, byNothing, ref(1, 3)), api.ErrOrder},
		{"falling first", truncate(0, byFull, byKey, ref(10, 1)), api.ErrOrder},
		{"falling last", truncate(0, byKey, ref(10, 1), byFull), api.ErrOrder},
		{"eight that fall", truncate(0, slices.Concat(l[1:], l[:1])...), api.ErrOrder},

		{"one that is not there", truncate(0, none), api.ErrMissing},
		{"the zero ref", truncate(0, rel.Ref{}), api.ErrMissing},
		{"the first is not there", truncate(0, ref(1, 1), byKey, byFull), api.ErrMissing},
		{"the last is not there", truncate(0, byKey, byFull, none), api.ErrMissing},
		{"one between is not there", truncate(0, byKey, none, ref(10, 1)), api.ErrMissing},
		{"another version", truncate(0, ref(10, 2)), api.ErrMissing},
		{"the eighth is not there", truncate(0, append(more(7), ref(99, 1))...), api.ErrMissing},

		{"flags of 4", truncate(4, byKey), api.ErrRange},
		{"flags of 128", truncate(128, all...), api.ErrRange},
		{"flags of 255", truncate(255, l...), api.ErrRange},
	})
}

func TestP131RightTruncatesSeveralWrong(t *testing.T) {
	at := func(v event.Event) event.Event { return with(v, func(v *event.Event) { v.At = byKey }) }
	old := func(v event.Event) event.Event { return with(v, func(v *event.Event) { v.Old = 3 }) }
	cells := func(v event.Event) event.Event { return with(v, func(v *event.Event) { v.After = row.Row{noKind} }) }
	kind := func(v event.Event) event.Event { return with(v, func(v *event.Event) { v.Kind = frame.Commit }) }
	falling := slices.Concat([]rel.Ref{none}, more(7))
	nine := append(slices.Clone(falling), byKey)
	hold(t, []told{
		{"the kind ahead of the form", kind(at(truncate(0, byKey))), api.ErrKind},
		{"the kind ahead of all", kind(cells(old(truncate(9, nine...)))), api.ErrKind},
		{"the kind ahead of the count", kind(truncate(9)), api.ErrKind},
		{"the form ahead of no ref", at(truncate(0)), api.ErrForm},
		{"the form ahead of nine", old(truncate(0, more(9)...)), api.ErrForm},
		{"the form ahead of the order", cells(truncate(0, byFull, byKey)), api.ErrForm},
		{"the form ahead of one that is not there", at(truncate(0, none)), api.ErrForm},
		{"the form ahead of the flags", at(truncate(4, byKey)), api.ErrForm},
		{"the count ahead of the order", truncate(0, nine...), api.ErrCount},
		{"the count ahead of alike ones", truncate(0, slices.Repeat([]rel.Ref{byKey}, 9)...), api.ErrCount},
		{"the count ahead of one that is not there", truncate(0, append(more(8), ref(99, 1))...), api.ErrCount},
		{"the count ahead of the flags", truncate(4, more(9)...), api.ErrCount},
		{"no ref ahead of the flags", truncate(4), api.ErrCount},
		{"the order ahead of one that is not there, ahead", truncate(0, none, byKey), api.ErrOrder},
		{"the order ahead of one that is not there, far ahead", truncate(0, ref(1, 1), byNothing, byFull), api.ErrOrder},
		{"alike ones that are not there", truncate(0, none, none), api.ErrOrder},
		{"the order ahead of the flags", truncate(4, byFull, byKey), api.ErrOrder},
		{"one that is not there ahead of the flags", truncate(4, byKey, none), api.ErrMissing},
	})
}

func TestP131RightOnes(t *testing.T) {
	w, v := of3(1, "a", 0), of3(2, "b", 1)
	hold(t, []told{
		{"an insert by key", insert(byKey, w), api.OK},
		{"an insert by full", insert(byFull, w), api.OK},
		{"an insert by nothing", insert(byNothing, w), api.OK},
		{"an update by key", update(byKey, image.None, nil, w), api.OK},
		{"an update by key of the key", update(byKey, image.Key, keyOf(1), v), api.OK},
		{"an update by full", update(byFull, image.Full, w, v), api.OK},
		{"an update by full, as it was", update(byFull, image.Full, w, w), api.OK},
		{"an update by nothing", update(byNothing, image.None, nil, put(v, 1, same)), api.OK},
		{"a delete by key", gone(byKey, image.Key, keyOf(1)), api.OK},
		{"a delete by full", gone(byFull, image.Full, w), api.OK},
		{"lists that are empty", event.Event{Kind: frame.Insert, At: byKey, Before: row.Row{}, After: w, Refs: []rel.Ref{}}, api.OK},
		{"lists that are empty of a delete", event.Event{Kind: frame.Delete, At: byKey, Old: image.Key, Before: keyOf(1), After: row.Row{}, Refs: []rel.Ref{}}, api.OK},
	})
}

func TestP131RightForm(t *testing.T) {
	w := of3(1, "a", 0)
	for _, x := range []told{
		{"an insert", insert(byKey, w), api.OK},
		{"an update", update(byFull, image.Full, w, w), api.OK},
		{"a delete", gone(byKey, image.Key, keyOf(1)), api.OK},
	} {
		refs := func(l ...rel.Ref) event.Event { return with(x.v, func(v *event.Event) { v.Refs = l }) }
		flags := func(n uint8) event.Event { return with(x.v, func(v *event.Event) { v.Flags = n }) }
		missing := with(flags(1), func(v *event.Event) { v.At = none })
		wrong := with(refs(byKey), func(v *event.Event) { v.Before, v.After = row.Row{noKind}, row.Row{noKind} })
		image3 := with(flags(1), func(v *event.Event) { v.Old = 3 })
		other := with(refs(byKey), func(v *event.Event) { v.Kind = frame.Piece })
		hold(t, []told{
			x,
			{x.name + " with a ref", refs(byKey), api.ErrForm},
			{x.name + " with its own ref", refs(x.v.At), api.ErrForm},
			{x.name + " with a zero ref", refs(rel.Ref{}), api.ErrForm},
			{x.name + " with nine refs", refs(more(9)...), api.ErrForm},
			{x.name + " with flags of 1", flags(1), api.ErrForm},
			{x.name + " with flags of 3", flags(3), api.ErrForm},
			{x.name + " with flags of 4", flags(4), api.ErrForm},
			{x.name + " with flags of 255", flags(255), api.ErrForm},
			{x.name + ": the form ahead of a ref that is missing", missing, api.ErrForm},
			{x.name + ": the form ahead of cells", wrong, api.ErrForm},
			{x.name + ": the form ahead of the image's kind", image3, api.ErrForm},
			{x.name + ": the kind ahead of the form", other, api.ErrKind},
		})
	}
}

func TestP131RightMissing(t *testing.T) {
	w := of3(1, "a", 0)
	for _, at := range []rel.Ref{none, {}, ref(1, 0), ref(0, 2), ref(1, 1), ref(1, 3), ref(2, 3), ref(10, 2), ref(math.MaxUint32, 1)} {
		hold(t, []told{
			{"an insert", insert(at, w), api.ErrMissing},
			{"an update", update(at, image.None, nil, w), api.ErrMissing},
			{"a delete", gone(at, image.Key, keyOf(1)), api.ErrMissing},
			{"an insert, ahead of the image's kind", update(at, 3, w, w), api.ErrMissing},
			{"an update, ahead of its cells", update(at, image.None, nil, row.Row{noKind}), api.ErrMissing},
			{"a delete, ahead of what it may not have", with(gone(at, image.Key, keyOf(1)), func(v *event.Event) { v.After = w }), api.ErrMissing},
		})
	}
}

// wrongRow is a row of the three relations with which something is wrong, and what.
type wrongRow struct {
	name string
	w    row.Row
	e    api.Errno
}

// wrongRows are wrong both as a full image and as a new one of an update; with nothing else than a key as a key image, too.
func wrongRows(w row.Row) []wrongRow {
	return []wrongRow{
		{"no cells", nil, api.ErrCount},
		{"one cell fewer", w[:2], api.ErrCount},
		{"one cell more", slices.Concat(w, row.Row{null}), api.ErrCount},
		{"a cell of no kind", put(w, 1, noKind), api.ErrKind},
		{"a null cell with a value", put(w, 2, cell.Cell{Value: value.Value{Int: 1}}), api.ErrForm},
		{"a text that is none", put(w, 1, sample.Text("\n")), api.ErrForm},
		{"a text that is too long", put(w, 1, sample.Text(strings.Repeat("x", 2049))), api.ErrLong},
		{"a bool of 2", put(w, 2, sample.Bool(2)), api.ErrRange},
		{"an int in a text's column", put(w, 1, sample.Int(1)), api.ErrType},
		{"a same bool", put(w, 2, same), api.ErrType},
		{"a key that is null", put(w, 0, null), api.ErrNull},
	}
}

func TestP131RightByImages(t *testing.T) {
	w, v := of3(1, "a", 0), of3(2, "b", 1)
	var l []told
	for _, at := range []rel.Ref{byKey, byFull, byNothing} {
		for _, x := range wrongRows(w) {
			l = append(l, told{"an insert: " + x.name, insert(at, x.w), x.e})
		}
	}
	for _, x := range wrongRows(v) {
		l = append(l,
			told{"an update by nothing: " + x.name, update(byNothing, image.None, nil, x.w), x.e},
			told{"an update by key: " + x.name, update(byKey, image.None, nil, x.w), x.e},
			told{"an update of a key: " + x.name, update(byKey, image.Key, keyOf(1), x.w), x.e},
			told{"an update by full: " + x.name, update(byFull, image.Full, w, x.w), x.e},
			told{"an update by full, ahead: " + x.name, update(byFull, image.Full, x.w, row.Row{noKind}), x.e},
			told{"a delete by full: " + x.name, gone(byFull, image.Full, x.w), x.e})
	}
	for _, x := range wrongRows(keyOf(1)) {
		l = append(l,
			told{"an update of a key, ahead: " + x.name, update(byKey, image.Key, x.w, row.Row{noKind}), x.e},
			told{"a delete by key: " + x.name, gone(byKey, image.Key, x.w), x.e})
	}
	hold(t, append(l,
		told{"an insert: a same text", insert(byKey, put(w, 1, same)), api.ErrImage},
		told{"an update by full: a same text ahead", update(byFull, image.Full, put(w, 1, same), v), api.ErrImage},
		told{"a delete by full: a same text", gone(byFull, image.Full, put(w, 1, same)), api.ErrImage},
		told{"a delete by key: more than the key", gone(byKey, image.Key, w), api.ErrImage},
		told{"an update of a key: more than the key", update(byKey, image.Key, w, v), api.ErrImage},
		told{"an update of a key that stays", update(byKey, image.Key, keyOf(2), v), api.ErrKey},

		told{"an insert with an image of the kind 3", update(byKey, 3, nil, w), api.ErrImage},
		told{"an insert with cells ahead", event.Event{Kind: frame.Insert, At: byKey, Before: w, After: w}, api.ErrImage},
		told{"an insert with a key image", event.Event{Kind: frame.Insert, At: byKey, Old: image.Key, Before: keyOf(1), After: v}, api.ErrImage},
		told{"an update by key with a full image", update(byKey, image.Full, w, v), api.ErrImage},
		told{"an update by full without an image", update(byFull, image.None, nil, v), api.ErrImage},
		told{"an update by nothing with an image", update(byNothing, image.Key, keyOf(1), v), api.ErrImage},
		told{"an update with cells ahead that are none", update(byKey, image.None, w, v), api.ErrImage},
		told{"a delete with a row behind", with(gone(byKey, image.Key, keyOf(1)), func(v *event.Event) { v.After = w }), api.ErrImage},
		told{"a delete by nothing", gone(byNothing, image.None, nil), api.ErrImage},
		told{"a delete by key without an image", gone(byKey, image.None, nil), api.ErrImage},
		told{"a delete by full with a key image", gone(byFull, image.Key, keyOf(1)), api.ErrImage},
	))
}

// TestP131RightKeySame has keys that can be same only where they are texts.
func TestP131RightKeySame(t *testing.T) {
	c := known(t, []rel.Rel{sample.At(sample.Texts(2, rel.Key, 0), 1, 1), sample.At(sample.Texts(2, rel.Full, 0), 2, 1)})
	for _, x := range []told{
		{"an insert", insert(ref(1, 1), of("=", "b")), api.ErrKey},
		{"an update", update(ref(1, 1), image.None, nil, of("=", "b")), api.ErrKey},
		{"an update of a key", update(ref(1, 1), image.Key, of("=", "-"), of("a", "b")), api.ErrKey},
		{"an update by full", update(ref(2, 1), image.Full, of("=", "b"), of("a", "b")), api.ErrKey},
		{"a delete by key", gone(ref(1, 1), image.Key, of("=", "-")), api.ErrKey},
		{"a delete by full", gone(ref(2, 1), image.Full, of("=", "b")), api.ErrKey},
	} {
		if e := x.v.Right(c); e != x.e {
			t.Errorf("%s: %d, not %d", x.name, e, x.e)
		}
	}
}

func TestP131RightKinds(t *testing.T) {
	c := known(t, rels())
	for kind := range 256 {
		want := []api.Errno{api.OK, api.OK, api.ErrImage, api.ErrForm}
		if kind < frame.Insert || kind > frame.Truncate {
			want = slices.Repeat([]api.Errno{api.ErrKind}, 4)
		} else {
			want = want[kind-frame.Insert:]
		}
		// An insert, or an update of the same row; a delete may not have it, and a truncate no ref At.
		v := event.Event{Kind: uint8(kind), At: byKey, After: of3(1, "a", 0)}
		if e := v.Right(c); e != want[0] {
			t.Errorf("kind %d: %d, not %d", kind, e, want[0])
		}
	}
}

// turns are changes of one part of an event each, of which many make it wrong.
func turns() []func(v *event.Event) {
	w := of3(1, "a", 0)
	return append(changes(),
		func(v *event.Event) { v.Kind = frame.Insert },
		func(v *event.Event) { v.Kind = frame.Update },
		func(v *event.Event) { v.Kind = frame.Delete },
		func(v *event.Event) { v.Kind = frame.Truncate },
		func(v *event.Event) { v.At = rel.Ref{} },
		func(v *event.Event) { v.At = byFull },
		func(v *event.Event) { v.At = none },
		func(v *event.Event) { v.Old = image.None },
		func(v *event.Event) { v.Old = image.Full },
		func(v *event.Event) { v.Before = nil },
		func(v *event.Event) { v.Before = w },
		func(v *event.Event) { v.Before = keyOf(5) },
		func(v *event.Event) { v.After = nil },
		func(v *event.Event) { v.After = w },
		func(v *event.Event) { v.After = put(w, 1, same) },
		func(v *event.Event) { v.Refs = nil },
		func(v *event.Event) { v.Refs = []rel.Ref{byKey} },
		func(v *event.Event) { v.Refs = []rel.Ref{byFull, byKey} },
		func(v *event.Event) { v.Refs = []rel.Ref{byKey, none} },
		func(v *event.Event) { v.Refs = more(8) },
		func(v *event.Event) { v.Refs = more(9) },
		func(v *event.Event) { v.Flags = 0 },
		func(v *event.Event) { v.Flags = 3 },
		func(v *event.Event) { v.Flags = 4 },
	)
}

func TestP131ByItsWords(t *testing.T) {
	l := rels()
	c, found := known(t, l), map[api.Errno]int{}
	for _, v := range bases() {
		for _, one := range turns() {
			for _, two := range turns() {
				for _, three := range turns() {
					v := with(with(with(v, one), two), three)
					e := v.Right(c)
					if want := rightByWords(l, v); e != want {
						t.Fatalf("%v: %d, not %d", v, e, want)
					}
					if !slices.Equal(v.Uses(), usesByWords(v)) {
						t.Fatalf("%v: uses %v", v, v.Uses())
					}
					found[e]++
				}
			}
		}
	}
	for _, e := range []api.Errno{api.OK, api.ErrKind, api.ErrForm, api.ErrCount, api.ErrOrder, api.ErrMissing, api.ErrRange, api.ErrImage} {
		if found[e] < 1000 {
			t.Errorf("error %d is told %d times", e, found[e])
		}
	}
}

func TestP131RightSamples(t *testing.T) {
	l := sample.Shapes()
	c := known(t, l)
	events := sample.Truncates(l)
	for _, r := range l {
		events = append(events, sample.Events(r, 9)...)
	}
	kinds := map[uint8]int{}
	for _, v := range events {
		kinds[v.Kind]++
		if e := v.Right(c); e != api.OK {
			t.Fatalf("%v: error %d", v, e)
		}
		for _, at := range v.Uses() {
			few := known(t, slices.DeleteFunc(slices.Clone(l), func(r rel.Rel) bool { return r.Ref == at }))
			if e := v.Right(few); e != api.ErrMissing {
				t.Fatalf("%v without %v: error %d", v, at, e)
			}
		}
	}
	for kind := uint8(frame.Insert); kind <= frame.Truncate; kind++ {
		if kinds[kind] < 20 {
			t.Errorf("%d events of the kind %d", kinds[kind], kind)
		}
	}
}

// spoil changes all that an event's lists have.
func spoil(v event.Event) {
	for _, w := range []row.Row{v.Before, v.After} {
		for k := range w {
			w[k] = noKind
		}
	}
	clear(v.Refs)
	_, _, _ = append(v.Before, noKind), append(v.After, noKind), append(v.Refs, rel.Ref{})
}

func TestP131Copy(t *testing.T) {
	for n := range bases() {
		v, kept := bases()[n], bases()[n]
		o, p := v.Copy(), v.Copy()
		if !sample.EqualEvent(o, kept) || !o.Alike(v) {
			t.Errorf("%v: its copy is %v", v, o)
		}
		spoil(o)
		if !sample.EqualEvent(v, kept) || !sample.EqualEvent(p, kept) {
			t.Errorf("%v: what was copied, or another copy, changed with a copy", kept)
		}
		spoil(v)
		if !sample.EqualEvent(p, kept) {
			t.Errorf("%v: a copy changed with what was copied", kept)
		}
	}
}

func TestP131CopyOfListsWithRoom(t *testing.T) {
	before, after, refs := of("a", "-", "room"), of("=", "b", "room"), more(4)
	v := event.Event{Kind: frame.Update, Before: before[:2], After: after[:2], Refs: refs[:3]}
	spoil(v.Copy())
	spoil(event.Event{Before: before[:0], After: after[:0], Refs: refs[:0]}.Copy())
	if !sample.EqualRow(before, of("a", "-", "room")) || !sample.EqualRow(after, of("=", "b", "room")) || !slices.Equal(refs, more(4)) {
		t.Errorf("%v, %v, %v", before, after, refs)
	}
}

// wrong is an event that is wrong by each catalog.
var wrong = event.Event{}

func TestP132Alike(t *testing.T) {
	a, b := insert(byKey, of3(1, "a", 0)), gone(byKey, image.Key, keyOf(1))
	// No two of them are alike, though each differs from another one in one part alone.
	list := func() []event.Tx {
		return []event.Tx{
			{},
			{Xid: 1},
			{Xid: 2},
			{Xid: math.MaxUint32},
			{Stamp: 1},
			{Stamp: 1 << 32},
			{Xid: 1, Stamp: 1},
			tx(1, a),
			tx(1, b),
			tx(1, a, b),
			tx(1, b, a),
			tx(1, a, a),
			tx(1, a, b, a),
			tx(1, a, with(b, func(v *event.Event) { v.Flags = 1 })),
			tx(1, with(a, func(v *event.Event) { v.After = put(v.After, 2, sample.Bool(1)) }), b),
			tx(1, with(a, func(v *event.Event) { v.At = byFull }), b),
			tx(1, a, b, wrong),
			{Xid: 1, Stamp: 9, Events: []event.Event{a, b}},
			{Xid: 2, Events: []event.Event{a, b}},
		}
	}
	for k, x := range list() {
		for j, o := range list() {
			if x.Alike(o) != (k == j) {
				t.Errorf("%v and %v: %t", x, o, x.Alike(o))
			}
		}
	}
	one, two := sample.Txs(sample.Shapes(), 20, 5), sample.Txs(sample.Shapes(), 20, 5)
	for k := range one {
		if !one[k].Alike(two[k]) {
			t.Errorf("%v, made twice, is not alike", one[k])
		}
	}
}

func TestP132Right(t *testing.T) {
	c := known(t, rels())
	right := insert(byKey, of3(1, "a", 0))
	nine, flags, missing := truncate(0, more(9)...), truncate(4, byKey), insert(none, nil)
	many := func(n int, l ...event.Event) []event.Event {
		return slices.Concat(slices.Repeat([]event.Event{right}, n), l)
	}
	for _, x := range []struct {
		name string
		t    event.Tx
		at   int
		e    api.Errno
	}{
		{"no events", tx(1), -1, api.OK},
		{"events, a list that is empty", event.Tx{Xid: 1, Events: []event.Event{}}, -1, api.OK},
		{"the greatest number", tx(math.MaxUint32, right), -1, api.OK},
		{"a stamp", event.Tx{Xid: 1, Stamp: math.MaxUint64, Events: many(2)}, -1, api.OK},
		{"one event", tx(1, right), -1, api.OK},
		{"one event of each kind", tx(1, right, update(byFull, image.Full, of3(1, "a", 0), of3(1, "a", 0)), gone(byKey, image.Key, keyOf(1)), truncate(3, more(8)...)), -1, api.OK},
		{"512 events", tx(1, many(512)...), -1, api.OK},

		{"the number 0", tx(0), -1, api.ErrRange},
		{"the number 0 with a stamp", event.Tx{Stamp: 5}, -1, api.ErrRange},
		{"the number 0 with events", tx(0, right), -1, api.ErrRange},
		{"513 events", tx(1, many(513)...), -1, api.ErrFull},
		{"1024 events", tx(1, many(1024)...), -1, api.ErrFull},

		{"the one event", tx(1, nine), 0, api.ErrCount},
		{"the first event", tx(1, flags, right, right), 0, api.ErrRange},
		{"one between", tx(1, right, missing, right), 1, api.ErrMissing},
		{"the last event", tx(1, right, right, nine), 2, api.ErrCount},
		{"the last one of 512", tx(1, many(511, wrong)...), 511, api.ErrKind},
		{"two of them", tx(1, right, flags, nine, right), 1, api.ErrRange},
		{"the same two of them, turned round", tx(1, right, nine, flags, right), 1, api.ErrCount},
		{"the first and the last one", tx(1, missing, right, wrong), 0, api.ErrMissing},
		{"all of them", tx(7, wrong, missing, flags, nine), 0, api.ErrKind},

		{"the number 0 ahead of an event", tx(0, wrong), -1, api.ErrRange},
		{"the number 0 ahead of 513 events", tx(0, many(513)...), -1, api.ErrRange},
		{"the number 0 ahead of all", tx(0, append([]event.Event{missing}, many(513)...)...), -1, api.ErrRange},
		{"513 events ahead of the first one", tx(1, append([]event.Event{missing}, many(512)...)...), -1, api.ErrFull},
		{"513 events ahead of the last one", tx(1, many(512, wrong)...), -1, api.ErrFull},
	} {
		if at, e := x.t.Right(c); at != x.at || e != x.e {
			t.Errorf("%s: %d and %d, not %d and %d", x.name, at, e, x.at, x.e)
		}
	}
}

func TestP132Used(t *testing.T) {
	a, b, d := ref(1, 2), ref(1, 3), ref(2, 1)
	for _, x := range []struct {
		name string
		l    []event.Tx
		want []rel.Ref
	}{
		{"no transactions", nil, nil},
		{"one without events", []event.Tx{tx(1)}, nil},
		{"some without events", []event.Tx{tx(1), {}, tx(2)}, nil},
		{"one event", []event.Tx{tx(1, insert(a, nil))}, []rel.Ref{a}},
		{"each kind", []event.Tx{tx(1, insert(a, nil), update(b, 0, nil, nil), gone(d, 0, nil), truncate(0, none))}, []rel.Ref{a, b, d, none}},
		{"the same ref often", []event.Tx{tx(1, insert(a, nil), gone(a, 0, nil)), tx(2, truncate(0, a), update(a, 0, nil, nil))}, []rel.Ref{a}},
		{"out of order", []event.Tx{tx(1, insert(d, nil)), tx(2, insert(b, nil)), tx(3, insert(a, nil))}, []rel.Ref{a, b, d}},
		{"out of order in one", []event.Tx{tx(1, insert(d, nil), insert(a, nil), insert(b, nil))}, []rel.Ref{a, b, d}},
		{"in order", []event.Tx{tx(1, insert(a, nil)), tx(2, insert(b, nil), insert(d, nil))}, []rel.Ref{a, b, d}},
		{"the same refs, not side by side", []event.Tx{tx(1, insert(d, nil), insert(a, nil)), tx(2, insert(d, nil), insert(a, nil))}, []rel.Ref{a, d}},
		{"a truncate out of order", []event.Tx{tx(1, truncate(0, d, b, a, d))}, []rel.Ref{a, b, d}},
		{"a truncate of nine", []event.Tx{tx(1, truncate(0, more(9)...))}, more(9)},
		{"a truncate with a ref At", []event.Tx{tx(1, event.Event{Kind: frame.Truncate, At: a, Refs: []rel.Ref{b}})}, []rel.Ref{b}},
		{"an insert with refs", []event.Tx{tx(1, event.Event{Kind: frame.Insert, At: a, Refs: []rel.Ref{b}})}, []rel.Ref{a}},
		{"the zero ref", []event.Tx{tx(1, insert(d, nil), insert(rel.Ref{}, nil))}, []rel.Ref{{}, d}},
		{"great ones", []event.Tx{tx(1, insert(ref(math.MaxUint32, math.MaxUint32), nil), insert(ref(math.MaxUint32, 1), nil), insert(ref(1, math.MaxUint32), nil))}, []rel.Ref{ref(1, math.MaxUint32), ref(math.MaxUint32, 1), ref(math.MaxUint32, math.MaxUint32)}},
		{"kinds that are none", []event.Tx{tx(1, event.Event{At: a, Refs: []rel.Ref{b}}, event.Event{Kind: frame.Commit, At: a, Refs: []rel.Ref{b}}, event.Event{Kind: 255, At: a})}, nil},
		{"kinds that are none, between", []event.Tx{tx(1, insert(d, nil), event.Event{Kind: frame.Piece, At: a}, insert(b, nil))}, []rel.Ref{b, d}},
		{"transactions that are wrong", []event.Tx{tx(0, insert(d, nil)), tx(0, insert(a, nil))}, []rel.Ref{a, d}},
	} {
		if l := event.Used(x.l...); !slices.Equal(l, x.want) {
			t.Errorf("%s: %v, not %v", x.name, l, x.want)
		}
	}
}

// txs are transactions of events, right ones and wrong ones.
func txs() []event.Tx {
	l := []event.Tx{{}, tx(1)}
	for n, b := range sample.Mixed(300, 11) {
		v := bases()[int(b)%len(bases())]
		for _, m := range sample.Mixed(n%4, uint32(n)) {
			turns()[int(m)%len(turns())](&v)
		}
		// Ahead of it there are right ones.
		ahead := bases()[1:7]
		l = append(l, tx(uint32(n%5), v, wrong), event.Tx{Xid: uint32(b), Stamp: uint64(n), Events: append(ahead[:n%7], v)})
	}
	return l
}

func TestP132ByItsWords(t *testing.T) {
	l := rels()
	c, places := known(t, l), map[int]int{}
	all := txs()
	for k, x := range all {
		at, e := x.Right(c)
		if a, w := rightTxByWords(l, x); at != a || e != w {
			t.Fatalf("%v: %d and %d, not %d and %d", x, at, e, a, w)
		}
		places[at]++
		few := all[k/2 : k]
		if refs := event.Used(few...); !slices.Equal(refs, usedByWords(few)) {
			t.Fatalf("%v: uses %v", few, refs)
		}
		for _, o := range all[:10] {
			if x.Alike(o) != sample.EqualTx(x, o) || o.Alike(x) != sample.EqualTx(o, x) {
				t.Fatalf("%v and %v", x, o)
			}
		}
	}
	for at := -1; at < 4; at++ {
		if places[at] < 5 {
			t.Errorf("the place %d is told %d times", at, places[at])
		}
	}
}

func TestP133EachByItself(t *testing.T) {
	l := rels()
	c, right, wrong := known(t, l), 0, 0
	for _, x := range txs() {
		if x.Xid == 0 {
			continue
		}
		all := true
		for _, v := range x.Events {
			if v.Right(c) != api.OK {
				all = false
			}
			// By itself an event is as right as in a transaction of its own.
			at, e := tx(1, v).Right(c)
			if e != v.Right(c) || at != -1 && e == api.OK || at != 0 && e != api.OK {
				t.Fatalf("%v alone: %d and %d", v, at, e)
			}
		}
		if at, e := x.Right(c); (e == api.OK) != all || (at == -1) != all {
			t.Fatalf("%v: %d and %d", x, at, e)
		}
		if all {
			right++
		} else {
			wrong++
		}
	}
	if right < 20 || wrong < 100 {
		t.Errorf("%d transactions that are right, %d that are wrong", right, wrong)
	}
	shapes := sample.Shapes()
	c = known(t, shapes)
	for _, x := range sample.Txs(shapes, 100, 3) {
		if at, e := x.Right(c); at != -1 || e != api.OK {
			t.Fatalf("%v: %d and %d", x, at, e)
		}
	}
}

func TestR1AnyArguments(t *testing.T) {
	catalogs := []*catalog.Catalog{catalog.New(), known(t, rels()), known(t, sample.Shapes())}
	lists := [][]rel.Rel{nil, rels(), sample.Shapes()}
	cells := slices.Concat(sample.WrongCells(value.Text), sample.RightCells(value.Text), sample.WrongCells(value.Bool))
	great := slices.Repeat([]rel.Ref{ref(math.MaxUint32, 0), {}}, 5000)
	for kind := range 256 {
		for _, at := range []rel.Ref{{}, byKey, none, ref(math.MaxUint32, math.MaxUint32)} {
			for _, w := range []row.Row{nil, cells, cells[:3], make(row.Row, 1000)} {
				v := event.Event{Kind: uint8(kind), At: at, Old: uint8(kind), Before: w, After: w, Refs: great, Flags: uint8(255 - kind)}
				few := event.Event{Kind: uint8(kind), At: at, Old: uint8(kind % 4), Before: w}
				for k, c := range catalogs {
					if v.Right(c) != rightByWords(lists[k], v) || few.Right(c) != rightByWords(lists[k], few) {
						t.Fatalf("%v: %d", few, few.Right(c))
					}
				}
				if !v.Alike(v.Copy()) || v.Alike(few) || len(v.Uses()) != len(usesByWords(v)) {
					t.Fatalf("%v", few)
				}
				if kind > frame.Truncate || w != nil {
					continue
				}
				x := tx(uint32(kind), slices.Repeat([]event.Event{few, v}, 300)...)
				if at, e := x.Right(catalogs[1]); at != -1 || e == api.OK || len(event.Used(x, x)) > 3 {
					t.Fatalf("many of %v: %d and %d", few, at, e)
				}
			}
		}
	}
}

func TestR2NothingBeside(t *testing.T) {
	// Beside no error there is the place -1, and beside an error of the transaction itself, too.
	c := catalog.New()
	if at, e := tx(1).Right(c); at != -1 || e != api.OK {
		t.Errorf("%d and %d", at, e)
	}
	if at, e := tx(0, wrong).Right(c); at != -1 || e != api.ErrRange {
		t.Errorf("%d and %d", at, e)
	}
	// With an error nothing is changed.
	c = known(t, rels())
	for _, v := range []event.Event{wrong, insert(none, nil), truncate(0, byFull, byKey), insert(byKey, nil)} {
		if v.Right(c) == api.OK {
			t.Errorf("%v is right", v)
		}
	}
	if !c.Same(known(t, rels())) {
		t.Error("the catalog is changed")
	}
}

// hollow is an event like it, with empty lists for those that are nil.
func hollow(v event.Event) event.Event {
	v = v.Copy()
	if v.Before == nil {
		v.Before = row.Row{}
	}
	if v.After == nil {
		v.After = row.Row{}
	}
	if v.Refs == nil {
		v.Refs = []rel.Ref{}
	}
	return v
}

func TestR3NoneAndEmpty(t *testing.T) {
	l := rels()
	c := known(t, l)
	for _, v := range bases() {
		for _, turn := range turns() {
			turn(&v)
			o := hollow(v)
			if !v.Alike(o) || !o.Alike(v) || v.Right(c) != o.Right(c) || !slices.Equal(v.Uses(), o.Uses()) || !o.Copy().Alike(v.Copy()) {
				t.Fatalf("%v: with empty lists it is another one", v)
			}
		}
	}
	empty := event.Tx{Xid: 3, Events: []event.Event{}}
	if at, e := empty.Right(c); at != -1 || e != api.OK || !empty.Alike(tx(3)) || !tx(3).Alike(empty) || empty.Alike(tx(3, wrong)) {
		t.Error("a transaction of no events")
	}
	if len(event.Used(empty)) != 0 || len(event.Used([]event.Tx{}...)) != 0 {
		t.Error("refs of nothing")
	}
}

func TestR4HandedIn(t *testing.T) {
	c := known(t, rels())
	refs := []rel.Ref{byNothing, byKey, byKey, byFull, ref(9, 9)}
	kept := slices.Clone(refs)
	l := []event.Tx{tx(1, truncate(0, refs[:4]...), insert(byFull, of3(1, "a", 0))), tx(2, wrong), tx(3, gone(byKey, image.Key, keyOf(1)))}
	same := []event.Tx{tx(1, truncate(0, kept[:4]...), insert(byFull, of3(1, "a", 0))), tx(2, wrong), tx(3, gone(byKey, image.Key, keyOf(1)))}
	used, uses := event.Used(l...), l[0].Events[0].Uses()
	for _, x := range l {
		x.Right(c)
		x.Alike(l[0])
		for _, v := range x.Events {
			v.Right(c)
			v.Alike(l[0].Events[0])
			v.Copy()
		}
	}
	if !slices.EqualFunc(l, same, sample.EqualTx) || !slices.Equal(refs, kept) || !c.Same(known(t, rels())) {
		t.Fatalf("%v, %v: what is handed in is changed", l, refs)
	}
	// What was handed in is changed afterwards.
	clear(refs)
	spoil(l[0].Events[1])
	clear(l)
	if !slices.Equal(used, []rel.Ref{byKey, byFull, byNothing}) || !slices.Equal(uses, kept[:4]) {
		t.Errorf("%v, %v", used, uses)
	}
}

func TestR4HandedOut(t *testing.T) {
	refs := append(more(8), ref(99, 1))
	v := truncate(0, refs[:8]...)
	l := []event.Tx{tx(1, v)}
	one, two := v.Uses(), v.Uses()
	first, second := event.Used(l...), event.Used(l...)
	for _, o := range [][]rel.Ref{one, first} {
		clear(o)
		_ = append(o, ref(5, 5))
	}
	if !slices.Equal(refs[:8], more(8)) || refs[8] != ref(99, 1) {
		t.Errorf("%v: an answer shares memory with what was handed in", refs)
	}
	if !slices.Equal(two, more(8)) || !slices.Equal(second, more(8)) {
		t.Errorf("%v, %v: an answer shares memory with another one", two, second)
	}
}

func TestR6Again(t *testing.T) {
	c, l := known(t, rels()), rels()
	for range 3 {
		for _, v := range bases() {
			if e := v.Right(c); e != rightByWords(l, v) {
				t.Errorf("%v: %d", v, e)
			}
		}
		if u := event.Used(tx(1, truncate(0, byFull, byKey)), tx(2, insert(none, nil))); !slices.Equal(u, []rel.Ref{byKey, byFull, none}) {
			t.Errorf("%v", u)
		}
	}
	// What is added to a catalog counts from then on.
	v := insert(none, of3(1, "a", 0))
	if e := v.Right(c); e != api.ErrMissing {
		t.Errorf("error %d", e)
	}
	c.Add(sample.At(l[0], none.Oid, none.Version))
	if e := v.Right(c); e != api.OK {
		t.Errorf("error %d", e)
	}
}

func TestExamples(t *testing.T) {
	c := known(t, []rel.Rel{sample.At(sample.Texts(1, rel.Nothing), 1, 1), sample.At(sample.Texts(1, rel.Nothing), 2, 1)})
	v := event.Event{Kind: frame.Truncate, Refs: []rel.Ref{{Oid: 2, Version: 1}, {Oid: 1, Version: 1}}}
	for _, k := range []*catalog.Catalog{c, catalog.New()} {
		if e := v.Right(k); e != api.ErrOrder {
			t.Errorf("error %d", e)
		}
	}
}
