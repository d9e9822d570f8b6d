package sample

import (
	"slices"

	"lacuna/cell"
	"lacuna/event"
	"lacuna/frame"
	"lacuna/image"
	"lacuna/rel"
	"lacuna/row"
	"lacuna/value"
)

// EqualEvent: is it one event, field by field?
func EqualEvent(v, o event.Event) bool {
	return v.Kind == o.Kind && v.At == o.At && v.Old == o.Old && v.Flags == o.Flags &&
		EqualRow(v.Before, o.Before) && EqualRow(v.After, o.After) && slices.Equal(v.Refs, o.Refs)
}

// EqualTx: is it one transaction, field by field?
func EqualTx(t, o event.Tx) bool {
	return t.Xid == o.Xid && t.Stamp == o.Stamp && slices.EqualFunc(t.Events, o.Events, EqualEvent)
}

// Ref is one of an oid and a version.
func Ref(oid, version uint32) rel.Ref { return rel.Ref{Oid: oid, Version: version} }

// Insert is one into the relation of a ref.
func Insert(at rel.Ref, after row.Row) event.Event {
	return event.Event{Kind: frame.Insert, At: at, After: after}
}

// Update is one of the relation of a ref.
func Update(at rel.Ref, old uint8, before, after row.Row) event.Event {
	return event.Event{Kind: frame.Update, At: at, Old: old, Before: before, After: after}
}

// Delete is one from the relation of a ref.
func Delete(at rel.Ref, old uint8, before row.Row) event.Event {
	return event.Event{Kind: frame.Delete, At: at, Old: old, Before: before}
}

// Truncate is one of the relations of refs.
func Truncate(flags uint8, refs ...rel.Ref) event.Event {
	return event.Event{Kind: frame.Truncate, Flags: flags, Refs: refs}
}

// Tx is a transaction of events.
func Tx(xid uint32, l ...event.Event) event.Tx { return event.Tx{Xid: xid, Events: l} }

// Shapes are relations for one catalog, in order: of each identity, with few columns and with many, also several versions of one oid.
func Shapes() []rel.Rel {
	return []rel.Rel{
		At(Texts(3, rel.Key, 0), 1, 1),
		At(Texts(2, rel.Full, 1), 1, 2),
		At(Texts(1, rel.Nothing), 2, 1),
		At(Keyed(Wide(16, 0), rel.Key, 1, 4), 2, 3),
		At(Keyed(Wide(7, 3), rel.Full), 300, 1),
		At(Keyed(Wide(9, 2), rel.Nothing, 0), 300, 70000),
		At(Keyed(Rel(value.Int, value.Bytes, value.Float), rel.Key, 0), 1<<32-1, 1),
		At(Keyed(Rel(value.Bool, value.Complex), rel.Full, 0, 1), 1<<32-1, 1<<32-1),
	}
}

// fullCells are those of RightCells that are full.
func fullCells(kind uint8) []cell.Cell {
	return slices.DeleteFunc(RightCells(kind), func(c cell.Cell) bool { return c.Kind != cell.Full })
}

// Whole are rows that are full images, n and one more.
func Whole(r rel.Rel, n uint32) []row.Row {
	l := Rows(r, n)
	for at, w := range l {
		for k, c := range r.Columns {
			if c.Key && w[k].Kind == cell.Null || w[k].Kind == cell.Same {
				cells := fullCells(c.Type)
				w[k] = cells[(at+k)%len(cells)]
			}
		}
	}
	return l
}

// sparse is a row like w, where each text that is not of the key is same.
func sparse(r rel.Rel, w row.Row) row.Row {
	w = slices.Clone(w)
	for k, c := range r.Columns {
		if !c.Key && c.Type >= value.Text {
			w[k] = cell.Cell{Kind: cell.Same}
		}
	}
	return w
}

// keyOf is a row like w, with null cells in all columns that are not of the key.
func keyOf(r rel.Rel, w row.Row) row.Row {
	w = slices.Clone(w)
	for k, c := range r.Columns {
		if !c.Key {
			w[k] = cell.Cell{}
		}
	}
	return w
}

// Events are right ones of a relation, of each kind that there may be by its identity but truncates.
func Events(r rel.Rel, n uint32) []event.Event {
	var l []event.Event
	rows := Whole(r, n)
	for k, w := range rows {
		next := rows[(k+1)%len(rows)]
		l = append(l, Insert(r.Ref, w))
		switch r.Identity {
		case rel.Full:
			l = append(l, Update(r.Ref, image.Full, w, next), Update(r.Ref, image.Full, w, sparse(r, next)), Delete(r.Ref, image.Full, w))
			continue
		case rel.Key:
			l = append(l, Delete(r.Ref, image.Key, keyOf(r, w)))
			if !EqualRow(keyOf(r, w), keyOf(r, next)) {
				l = append(l, Update(r.Ref, image.Key, keyOf(r, w), next), Update(r.Ref, image.Key, keyOf(r, w), sparse(r, next)))
			}
		}
		l = append(l, Update(r.Ref, image.None, nil, w), Update(r.Ref, image.None, nil, sparse(r, w)))
	}
	return l
}

// Truncates are right ones, of some of these relations and of all (of the first 8, if there are more).
func Truncates(l []rel.Rel) []event.Event {
	var refs []rel.Ref
	for _, r := range l[:min(len(l), 8)] {
		refs = append(refs, r.Ref)
	}
	events := []event.Event{Truncate(0, refs...)}
	for k := range refs {
		events = append(events, Truncate(uint8(k%4), refs[k:k+1]...), Truncate(uint8(3-k%4), refs[k:]...), Truncate(uint8(k%4), refs[:k+1]...))
	}
	return events
}

// Txs are n transactions that fit these relations, with few events each; others for another seed.
func Txs(l []rel.Rel, n int, seed uint32) []event.Tx {
	pool := Truncates(l)
	for _, r := range l {
		pool = append(pool, Events(r, 6)...)
	}
	var txs []event.Tx
	xid := uint32(0)
	for k := range n {
		b := Mixed(20, seed+uint32(k)*31)
		xid += 1 + uint32(b[0])
		t := event.Tx{Xid: xid, Stamp: uint64(b[1]) << (b[2] % 57)}
		for at := range int(b[3] % 8) {
			t.Events = append(t.Events, pool[(int(b[4+2*at])<<8+int(b[5+2*at]))%len(pool)].Copy())
		}
		txs = append(txs, t)
	}
	return txs
}
