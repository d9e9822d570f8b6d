package sample

import (
	"slices"
	"strings"

	"lacuna/api"
	"lacuna/catalog"
	"lacuna/cell"
	"lacuna/event"
	"lacuna/frame"
	"lacuna/image"
	"lacuna/rel"
	"lacuna/row"
)

// Catalog is one of relations that are right; nil, if they are not.
func Catalog(l ...rel.Rel) *catalog.Catalog {
	c, _, _ := catalog.Of(l...)
	return c
}

// Wrong is an event that is wrong by a catalog of Shapes, and what is wrong with it.
type Wrong struct {
	Name  string
	Event event.Event
	Err   api.Errno
}

// WrongEvents are wrong in each way that there is.
func WrongEvents() []Wrong {
	return slices.Concat(wrongKinds(), wrongTruncates(), wrongImages(), wrongRows())
}

// wrongKinds are events of other kinds, or with what is another kind's.
func wrongKinds() []Wrong {
	at, refs := Ref(1, 1), []rel.Ref{Ref(1, 1)}
	one, key, full := Cells("a", "b", "c"), Cells("a", "-", "-"), Cells("a", "b")
	return []Wrong{
		{"no kind", event.Event{At: at, After: one}, api.ErrKind},
		{"a begin", event.Event{Kind: frame.Begin, At: at, After: one}, api.ErrKind},
		{"a piece", event.Event{Kind: frame.Piece, At: at, After: one}, api.ErrKind},
		{"a commit", event.Event{Kind: frame.Commit, At: at, After: one}, api.ErrKind},
		{"the kind 255", event.Event{Kind: 255, Refs: refs}, api.ErrKind},
		{"an insert with refs", event.Event{Kind: frame.Insert, At: at, After: one, Refs: refs}, api.ErrForm},
		{"an update with flags", event.Event{Kind: frame.Update, At: at, After: one, Flags: 1}, api.ErrForm},
		{"a delete with refs", event.Event{Kind: frame.Delete, At: at, Old: image.Key, Before: key, Refs: refs}, api.ErrForm},
		{"a truncate with a ref At", event.Event{Kind: frame.Truncate, At: at, Refs: refs}, api.ErrForm},
		{"a truncate with an old image's kind", event.Event{Kind: frame.Truncate, Old: image.Key, Refs: refs}, api.ErrForm},
		{"a truncate with an old image", event.Event{Kind: frame.Truncate, Before: key, Refs: refs}, api.ErrForm},
		{"a truncate with a new image", event.Event{Kind: frame.Truncate, After: one, Refs: refs}, api.ErrForm},
		{"an insert into what is not there", Insert(Ref(1, 3), full), api.ErrMissing},
		{"a delete from what is not there", Delete(Ref(3, 1), image.Key, key), api.ErrMissing},
		{"an update of the ref 0 0", Update(rel.Ref{}, image.None, nil, one), api.ErrMissing},
	}
}

// wrongTruncates are truncates.
func wrongTruncates() []Wrong {
	var nine []rel.Ref
	for version := range uint32(9) {
		nine = append(nine, Ref(1, 1+version))
	}
	return []Wrong{
		{"a truncate of nothing", Truncate(0), api.ErrCount},
		{"a truncate of nine", Truncate(0, nine...), api.ErrCount},
		{"refs that fall", Truncate(0, Ref(2, 1), Ref(1, 1)), api.ErrOrder},
		{"a ref that is there twice", Truncate(0, Ref(1, 1), Ref(1, 1)), api.ErrOrder},
		{"a ref that is missing", Truncate(0, Ref(1, 1), Ref(1, 3)), api.ErrMissing},
		{"the flags 4", Truncate(4, Ref(1, 1)), api.ErrRange},
		{"the flags 255", Truncate(255, Ref(1, 1)), api.ErrRange},
	}
}

// wrongImages have images that can't be.
func wrongImages() []Wrong {
	byKey, byFull, byNothing := Ref(1, 1), Ref(1, 2), Ref(2, 1)
	one, key, full := Cells("a", "b", "c"), Cells("a", "-", "-"), Cells("a", "b")
	return []Wrong{
		{"a delete by nothing", Delete(byNothing, image.None, nil), api.ErrImage},
		{"a delete by nothing, with a full image", Delete(byNothing, image.Full, Cells("a")), api.ErrImage},
		{"an update by nothing, with a full image", Update(byNothing, image.Full, Cells("a"), Cells("b")), api.ErrImage},
		{"an update by key, with a full image", Update(byKey, image.Full, one, one), api.ErrImage},
		{"an update by full, with a key image", Update(byFull, image.Key, Cells("-", "b"), full), api.ErrImage},
		{"an update by full, without an old image", Update(byFull, image.None, nil, full), api.ErrImage},
		{"an old image of the kind 3", Update(byFull, 3, full, full), api.ErrImage},
		{"an insert with an old image", event.Event{Kind: frame.Insert, At: byKey, Old: image.Key, Before: key, After: one}, api.ErrImage},
		{"an old image of no kind", event.Event{Kind: frame.Update, At: byKey, Before: key, After: one}, api.ErrImage},
		{"a delete with a new image", event.Event{Kind: frame.Delete, At: byKey, Old: image.Key, Before: key, After: one}, api.ErrImage},
		{"a key image with another column", Delete(byKey, image.Key, Cells("a", "b", "-")), api.ErrImage},
		{"a full image with a cell that is same", Delete(byFull, image.Full, Cells("=", "b")), api.ErrImage},
		{"an insert with a cell that is same", Insert(byKey, Cells("a", "b", "=")), api.ErrImage},
		{"a key that stays", Update(byKey, image.Key, key, one), api.ErrKey},
		{"a key that is same", Insert(byKey, Cells("=", "b", "c")), api.ErrKey},
		{"a key that is null", Insert(byKey, Cells("-", "b", "c")), api.ErrNull},
		{"an old key that is null", Delete(byKey, image.Key, Cells("-", "-", "-")), api.ErrNull},
	}
}

// wrongRows have rows that do not fit.
func wrongRows() []Wrong {
	byKey, byFull, bits := Ref(1, 1), Ref(1, 2), Ref(1<<32-1, 1<<32-1)
	return []Wrong{
		{"an insert of nothing", Insert(byKey, nil), api.ErrCount},
		{"one cell too few", Insert(byKey, Cells("a", "b")), api.ErrCount},
		{"one cell too many", Update(byKey, image.None, nil, Cells("a", "b", "c", "d")), api.ErrCount},
		{"an old image of nothing", Delete(byFull, image.Full, nil), api.ErrCount},
		{"a cell of another type", Insert(byKey, row.Row{Text("a"), Int(1), Text("c")}), api.ErrType},
		{"a cell of no kind", Insert(byKey, row.Row{Text("a"), {Kind: 3}, Text("c")}), api.ErrKind},
		{"a cell that is null, with a value", Insert(byKey, row.Row{Text("a"), {Value: Text("b").Value}, Text("c")}), api.ErrForm},
		{"a text of other bytes", Insert(byKey, Cells("a", "b\n", "c")), api.ErrForm},
		{"a text that is too long", Update(byFull, image.Full, Cells("a", "b"), Cells(strings.Repeat("a", 2049), "b")), api.ErrLong},
		{"a bool of 2", Insert(bits, row.Row{Bool(2), Complex(0)}), api.ErrRange},
		{"a full cell without a value", Insert(bits, row.Row{{Kind: cell.Full}, Complex(0)}), api.ErrType},
	}
}
