package image_test

import (
	"math"
	"slices"
	"strings"
	"testing"

	"lacuna/api"
	"lacuna/cell"
	"lacuna/frame"
	"lacuna/image"
	"lacuna/rel"
	"lacuna/row"
	"lacuna/sample"
	"lacuna/value"
)

var (
	null     = cell.Cell{}
	same     = cell.Cell{Kind: cell.Same}
	noKind   = cell.Cell{Kind: 3}
	negative = math.Copysign(0, -1)
	nan      = math.Float64frombits(0x7FF8000000000001)
	otherNaN = math.Float64frombits(0x7FF8000000000002)
	long     = strings.Repeat("x", 300)
)

// kinds are those of events, and others.
var kinds = []uint8{0, frame.Begin, frame.Relation, frame.Piece, frame.Insert, frame.Update, frame.Delete, frame.Truncate, frame.Commit, 9, 255}

// olds are the kinds of old images, and others.
var olds = []uint8{image.None, image.Key, image.Full, 3, 4, 128, 255}

// Short names of what is made most often.
var (
	texts = sample.Texts
	of    = sample.Cells
	put   = sample.Put
)

// oidless is r with an oid that can't be.
func oidless(r rel.Rel) rel.Rel {
	r.Oid = 0
	return r
}

// keyByWords is what is wrong with the columns of the key, by the words of P12.1.
func keyByWords(r rel.Rel, w row.Row) api.Errno {
	for k, c := range r.Columns {
		if c.Key && w[k].Kind == 0 {
			return api.ErrNull
		}
		if c.Key && w[k].Kind == 1 {
			return api.ErrKey
		}
	}
	return api.OK
}

// isByWords is what P12.1 says that IsKey answers, or IsFull.
func isByWords(r rel.Rel, w row.Row, full bool) api.Errno {
	if e := w.Fits(r); e != api.OK {
		return e
	}
	if e := keyByWords(r, w); e != api.OK {
		return e
	}
	for k, c := range w {
		if full && c.Kind == 1 || !full && !r.Columns[k].Key && c.Kind != 0 {
			return api.ErrImage
		}
	}
	return api.OK
}

// keyOfByWords is what P12.1 says that KeyOf answers.
func keyOfByWords(r rel.Rel, w row.Row) row.Row {
	var o row.Row
	for k, c := range w {
		if k >= len(r.Columns) || !r.Columns[k].Key {
			c = cell.Cell{}
		}
		o = append(o, c)
	}
	return o
}

// mayBeByWords: may there be such an old image, by the identity? (Of each identity those of an insert, of an update, of a delete.)
func mayBeByWords(identity, kind, old uint8) bool {
	l := [][3]string{{"n", "n", ""}, {"n", "nk", "k"}, {"n", "f", "f"}, {"n", "", ""}}
	return strings.Contains(l[min(identity, 3)][kind-frame.Insert], "nkf"[old:old+1])
}

// rightByWords is what P12.2 says that Right answers.
func rightByWords(r rel.Rel, kind, old uint8, before, after row.Row) api.Errno {
	insert, update, gone := kind == 4, kind == 5, kind == 6
	if !insert && !update && !gone {
		return api.ErrKind
	}
	if old > 2 || old == 0 && len(before) != 0 || gone && len(after) != 0 || !mayBeByWords(r.Identity, kind, old) {
		return api.ErrImage
	}
	if old != 0 {
		if e := isByWords(r, before, old == 2); e != api.OK {
			return e
		}
	}
	if insert {
		return isByWords(r, after, true)
	}
	if gone {
		return api.OK
	}
	if e := after.Fits(r); e != api.OK {
		return e
	}
	if e := keyByWords(r, after); e != api.OK {
		return e
	}
	if old == 1 && sample.EqualRow(before, keyOfByWords(r, after)) {
		return api.ErrKey
	}
	return api.OK
}

// mergeByWords is what P12.3 says that Merge answers.
func mergeByWords(before, after row.Row) row.Row {
	var o row.Row
	for k := range after {
		c := after[k]
		if c.Kind == 1 && len(before) > k {
			c = before[k]
		}
		o = append(o, c)
	}
	return o
}

func TestKinds(t *testing.T) {
	if image.None != 0 || image.Key != 1 || image.Full != 2 {
		t.Error("the kinds of images")
	}
}

func TestP121KeyOf(t *testing.T) {
	for _, x := range []struct {
		name string
		r    rel.Rel
		w    row.Row
		want row.Row
	}{
		{"the first one", texts(3, rel.Key, 0), of("a", "b", "c"), of("a", "-", "-")},
		{"the second one", texts(3, rel.Key, 1), of("a", "b", "c"), of("-", "b", "-")},
		{"the last one", texts(3, rel.Key, 2), of("a", "b", "c"), of("-", "-", "c")},
		{"the first and the last one", texts(3, rel.Full, 0, 2), of("a", "b", "c"), of("a", "-", "c")},
		{"but the first one", texts(3, rel.Key, 1, 2), of("a", "b", "c"), of("-", "b", "c")},
		{"but the last one", texts(3, rel.Key, 0, 1), of("a", "b", "c"), of("a", "b", "-")},
		{"all", texts(3, rel.Key, 0, 1, 2), of("a", "b", "c"), of("a", "b", "c")},
		{"none", texts(3, rel.Nothing), of("a", "b", "c"), of("-", "-", "-")},
		{"by the identity nothing", texts(3, rel.Nothing, 1), of("a", "b", "c"), of("-", "b", "-")},
		{"by an identity there is not", texts(3, 9, 1), of("a", "b", "c"), of("-", "b", "-")},
		{"null ones", texts(3, rel.Key, 0, 1), of("-", "b", "-"), of("-", "b", "-")},
		{"same ones", texts(3, rel.Key, 0, 1), of("=", "b", "="), of("=", "b", "-")},
		{"wrong ones", texts(2, rel.Key, 0), row.Row{noKind, noKind}, row.Row{noKind, null}},
		{"one of another type", texts(2, rel.Key, 0), row.Row{sample.Int(1), sample.Int(2)}, row.Row{sample.Int(1), null}},
		{"an empty text", texts(2, rel.Key, 1), of("", ""), of("-", "")},
		{"a large text", texts(2, rel.Key, 1), of(long, long), of("-", long)},
		{"no cells", texts(3, rel.Key, 0), nil, nil},
		{"one cell fewer", texts(3, rel.Key, 0, 2), of("a", "b"), of("a", "-")},
		{"far fewer cells", texts(16, rel.Key, 0, 7, 15), of("a"), of("a")},
		{"one cell more", texts(2, rel.Key, 0, 1), of("a", "b", "c"), of("a", "b", "-")},
		{"far more cells", texts(1, rel.Key, 0), slices.Repeat(of("a"), 20), append(of("a"), make(row.Row, 19)...)},
		{"no columns", rel.Rel{}, of("a", "="), of("-", "-")},
		{"neither columns nor cells", rel.Rel{}, nil, nil},
		{"20 columns", texts(20, rel.Key, 0, 19), slices.Repeat(of("a"), 20), slices.Concat(of("a"), make(row.Row, 18), of("a"))},
		{"a relation that is wrong", oidless(texts(2, rel.Key, 1)), of("a", "b"), of("-", "b")},
	} {
		if o := image.KeyOf(x.r, x.w); !sample.EqualRow(o, x.want) {
			t.Errorf("%s: %v", x.name, o)
		}
	}
}

// checked is a row, and what is wrong with it as a key image, and as a full one.
type checked struct {
	name      string
	r         rel.Rel
	w         row.Row
	key, full api.Errno
}

func TestP121IsKeyAndIsFull(t *testing.T) {
	three := texts(3, rel.Key, 1)
	two := texts(3, rel.Key, 0, 2)
	none := texts(3, rel.Nothing)
	all := texts(3, rel.Full, 0, 1, 2)
	noKey := texts(3, rel.Key)
	for _, x := range []checked{
		{"a key image", three, of("-", "b", "-"), api.OK, api.OK},
		{"a full one", three, of("a", "b", "c"), api.ErrImage, api.OK},
		{"a key image of two", two, of("a", "-", "c"), api.OK, api.OK},
		{"a full one of two", two, of("a", "b", "c"), api.ErrImage, api.OK},
		{"a key image of none", none, of("-", "-", "-"), api.OK, api.OK},
		{"a full one of none", none, of("a", "-", "c"), api.ErrImage, api.OK},
		{"one of all", all, of("a", "b", "c"), api.OK, api.OK},
		{"an empty key", three, of("-", "", "-"), api.OK, api.OK},
		{"a large key", three, of("-", long, "-"), api.OK, api.OK},

		{"no cells", three, nil, api.ErrCount, api.ErrCount},
		{"one fewer", three, of("-", "b"), api.ErrCount, api.ErrCount},
		{"one more", three, of("-", "b", "-", "-"), api.ErrCount, api.ErrCount},
		{"the key alone", three, of("b"), api.ErrCount, api.ErrCount},
		{"a relation that is wrong", oidless(three), of("-", "b", "-"), api.ErrRange, api.ErrRange},
		{"a relation of no columns", rel.Rel{Ref: rel.Ref{Oid: 1, Version: 1}, Name: "t"}, nil, api.ErrCount, api.ErrCount},
		{"17 columns", texts(17, rel.Key, 0), append(of("a"), make(row.Row, 16)...), api.ErrCount, api.ErrCount},
		{"an identity there is not", texts(3, 3, 1), of("-", "b", "-"), api.ErrKind, api.ErrKind},
		{"an identity by a key that is none", noKey, of("-", "-", "-"), api.ErrKey, api.ErrKey},
		{"a cell of no kind in the key", three, row.Row{null, noKind, null}, api.ErrKind, api.ErrKind},
		{"a cell of no kind elsewhere", three, row.Row{null, sample.Text("b"), noKind}, api.ErrKind, api.ErrKind},
		{"a null cell with a value", three, row.Row{{Value: value.Value{Int: 1}}, sample.Text("b"), null}, api.ErrForm, api.ErrForm},
		{"a cell of another type", three, row.Row{null, sample.Int(1), null}, api.ErrType, api.ErrType},
		{"a text that is none", three, of("-", "\n", "-"), api.ErrForm, api.ErrForm},

		{"a null key", three, of("-", "-", "-"), api.ErrNull, api.ErrNull},
		{"a same key", three, of("-", "=", "-"), api.ErrKey, api.ErrKey},
		{"the first of two null", two, of("-", "-", "c"), api.ErrNull, api.ErrNull},
		{"the last of two null", two, of("a", "-", "-"), api.ErrNull, api.ErrNull},
		{"the first of two same", two, of("=", "-", "c"), api.ErrKey, api.ErrKey},
		{"the last of two same", two, of("a", "-", "="), api.ErrKey, api.ErrKey},
		{"the one between null", all, of("a", "-", "c"), api.ErrNull, api.ErrNull},
		{"the one between same", all, of("a", "=", "c"), api.ErrKey, api.ErrKey},
		{"another one full, first", three, of("a", "b", "-"), api.ErrImage, api.OK},
		{"another one full, last", three, of("-", "b", "c"), api.ErrImage, api.OK},
		{"another one empty", three, of("", "b", "-"), api.ErrImage, api.OK},
		{"another one same, first", three, of("=", "b", "-"), api.ErrImage, api.ErrImage},
		{"another one same, last", three, of("-", "b", "="), api.ErrImage, api.ErrImage},
		{"another one same, between", two, of("a", "=", "c"), api.ErrImage, api.ErrImage},
		{"of none, the first one same", none, of("=", "-", "-"), api.ErrImage, api.ErrImage},
		{"of none, the last one same", none, of("-", "-", "="), api.ErrImage, api.ErrImage},
		{"of none, the last one full", none, of("-", "-", "c"), api.ErrImage, api.OK},

		{"the relation ahead of the count", oidless(three), of("b"), api.ErrRange, api.ErrRange},
		{"the relation ahead of the key", oidless(three), of("-", "-", "-"), api.ErrRange, api.ErrRange},
		{"the relation's key ahead of the row's", noKey, of("=", "b", "c"), api.ErrKey, api.ErrKey},
		{"the count ahead of the key", three, of("-", "-"), api.ErrCount, api.ErrCount},
		{"the count ahead of another one", three, of("=", "b", "-", "-"), api.ErrCount, api.ErrCount},
		{"a cell that can't be ahead of a key ahead", two, row.Row{null, null, noKind}, api.ErrKind, api.ErrKind},
		{"a cell that can't be ahead of another one", three, row.Row{same, sample.Text("b"), noKind}, api.ErrKind, api.ErrKind},
		{"null ahead of same in the key", two, of("-", "-", "="), api.ErrNull, api.ErrNull},
		{"same ahead of null in the key", two, of("=", "-", "-"), api.ErrKey, api.ErrKey},
		{"same behind null in the key of all", all, of("a", "-", "="), api.ErrNull, api.ErrNull},
		{"null behind same in the key of all", all, of("a", "=", "-"), api.ErrKey, api.ErrKey},
		{"a null key ahead of another one ahead", three, of("=", "-", "-"), api.ErrNull, api.ErrNull},
		{"a null key ahead of another one behind", three, of("-", "-", "="), api.ErrNull, api.ErrNull},
		{"a same key ahead of another one ahead", three, of("=", "=", "-"), api.ErrKey, api.ErrKey},
		{"a same key ahead of another one behind", three, of("-", "=", "="), api.ErrKey, api.ErrKey},
		{"a null key ahead of a full one ahead", three, of("a", "-", "-"), api.ErrNull, api.ErrNull},
		{"a same key ahead of a full one behind", three, of("-", "=", "c"), api.ErrKey, api.ErrKey},
		{"the last key ahead of one between", two, of("a", "=", "-"), api.ErrNull, api.ErrNull},
	} {
		if e := image.IsKey(x.r, x.w); e != x.key {
			t.Errorf("%s: as a key image %d, not %d", x.name, e, x.key)
		}
		if e := image.IsFull(x.r, x.w); e != x.full {
			t.Errorf("%s: as a full image %d, not %d", x.name, e, x.full)
		}
	}
}

// keyedRels are relations with keys of several kinds, right ones and wrong ones.
func keyedRels() []rel.Rel {
	l := []rel.Rel{{}, sample.Rel(), sample.Keyed(sample.Wide(17, 0), rel.Key, 0, 16), sample.Keyed(sample.Rel(value.Text, 7), rel.Full, 0)}
	for _, r := range append(sample.Rels(), texts(1, 0), texts(2, 0), texts(3, 0), texts(16, 0)) {
		last := len(r.Columns) - 1
		for _, key := range [][]int{nil, {0}, {last}, {0, last}, {last / 2}, {0, last / 2, last}} {
			for identity := range uint8(4) {
				l = append(l, sample.Keyed(r, identity, key...))
			}
		}
	}
	return append(l, oidless(texts(2, rel.Full, 0)))
}

// rowsOf are rows for a relation, of which many fit, and what is not far from them.
func rowsOf(r rel.Rel, n uint32) []row.Row {
	l := []row.Row{nil}
	for k, w := range sample.Rows(r, n) {
		l = append(l, w, keyOfByWords(r, w))
		if len(w) == 0 {
			continue
		}
		at := k % len(w)
		cells := slices.Concat(sample.WrongCells(r.Columns[at].Type), sample.RightCells(r.Columns[at].Type))
		for _, o := range []row.Row{w, keyOfByWords(r, w)} {
			l = append(l, put(o, at, null), put(o, at, same), put(o, at, cells[k*7%len(cells)]), o[:len(o)-1], append(slices.Clone(o), null))
		}
	}
	return l
}

func TestP121ByItsWords(t *testing.T) {
	told := map[api.Errno]int{}
	for _, r := range keyedRels() {
		for _, w := range rowsOf(r, 6) {
			key, full := image.IsKey(r, w), image.IsFull(r, w)
			if want := isByWords(r, w, false); key != want {
				t.Fatalf("%v of %v: as a key image %d, not %d", w, r, key, want)
			}
			if want := isByWords(r, w, true); full != want {
				t.Fatalf("%v of %v: as a full image %d, not %d", w, r, full, want)
			}
			if o := image.KeyOf(r, w); !sample.EqualRow(o, keyOfByWords(r, w)) {
				t.Fatalf("%v of %v: %v", w, r, o)
			}
			told[key]++
			told[full]++
		}
	}
	for _, e := range []api.Errno{api.OK, api.ErrCount, api.ErrNull, api.ErrKey, api.ErrImage, api.ErrKind, api.ErrForm, api.ErrType, api.ErrRange} {
		if told[e] < 100 {
			t.Errorf("error %d is told %d times", e, told[e])
		}
	}
}

// told is an event's images, and what is wrong with them.
type told struct {
	name          string
	r             rel.Rel
	kind, old     uint8
	before, after row.Row
	e             api.Errno
}

// hold holds Right against a table.
func hold(t *testing.T, l []told) {
	t.Helper()
	for _, x := range l {
		if e := image.Right(x.r, x.kind, x.old, x.before, x.after); e != x.e {
			t.Errorf("%s: %d, not %d", x.name, e, x.e)
		}
	}
}

func TestP122RightOnes(t *testing.T) {
	nothing, key, full := texts(3, rel.Nothing, 0), texts(3, rel.Key, 0), texts(3, rel.Full, 0)
	keyless := texts(3, rel.Full)
	a, b, k := of("a", "b", "-"), of("b", "b", "-"), of("a", "-", "-")
	hold(t, []told{
		{"an insert by nothing", nothing, frame.Insert, image.None, nil, a, api.OK},
		{"an insert by key", key, frame.Insert, image.None, nil, a, api.OK},
		{"an insert by full", full, frame.Insert, image.None, nil, a, api.OK},
		{"an insert of a key alone", key, frame.Insert, image.None, nil, k, api.OK},
		{"an insert of a large text", key, frame.Insert, image.None, nil, of(long, long, long), api.OK},
		{"an update by nothing", nothing, frame.Update, image.None, nil, a, api.OK},
		{"an update by key, without an old one", key, frame.Update, image.None, nil, a, api.OK},
		{"an update by key, with another key", key, frame.Update, image.Key, k, b, api.OK},
		{"an update by full", full, frame.Update, image.Full, a, b, api.OK},
		{"an update by full that is the same", full, frame.Update, image.Full, a, a, api.OK},
		{"an update by full without a key", keyless, frame.Update, image.Full, of("-", "-", "-"), of("=", "=", "="), api.OK},
		{"an update with same cells", key, frame.Update, image.None, nil, of("a", "=", "="), api.OK},
		{"an update by key with same cells", key, frame.Update, image.Key, k, of("b", "=", "="), api.OK},
		{"an update by full with same cells", full, frame.Update, image.Full, a, of("a", "=", "="), api.OK},
		{"an update by nothing with same cells", nothing, frame.Update, image.None, nil, of("a", "=", "c"), api.OK},
		{"a delete by key", key, frame.Delete, image.Key, k, nil, api.OK},
		{"a delete by full", full, frame.Delete, image.Full, a, nil, api.OK},
		{"a delete by full without a key", keyless, frame.Delete, image.Full, of("-", "b", "-"), nil, api.OK},
		{"lists that are empty", key, frame.Insert, image.None, row.Row{}, a, api.OK},
		{"lists that are empty of a delete", key, frame.Delete, image.Key, k, row.Row{}, api.OK},
	})
}

func TestP122WrongOnes(t *testing.T) {
	nothing, key, full, other := texts(3, rel.Nothing, 0), texts(3, rel.Key, 0), texts(3, rel.Full, 0), texts(3, 3, 0)
	a, b, k := of("a", "b", "-"), of("b", "b", "-"), of("a", "-", "-")
	hold(t, []told{
		{"the kind 0", key, 0, image.None, nil, a, api.ErrKind},
		{"a piece", key, frame.Piece, image.None, nil, a, api.ErrKind},
		{"a truncate", key, frame.Truncate, image.None, nil, nil, api.ErrKind},
		{"a commit", key, frame.Commit, image.Key, k, nil, api.ErrKind},
		{"the kind 255", key, 255, image.None, nil, a, api.ErrKind},

		{"an image of the kind 3", full, frame.Update, 3, a, a, api.ErrImage},
		{"an image of the kind 255", full, frame.Delete, 255, a, nil, api.ErrImage},
		{"an insert with an image of the kind 3", full, frame.Insert, 3, nil, a, api.ErrImage},

		{"an insert with cells ahead", key, frame.Insert, image.None, k, a, api.ErrImage},
		{"an update with cells ahead that are none", key, frame.Update, image.None, k, b, api.ErrImage},
		{"an update by nothing with cells ahead", nothing, frame.Update, image.None, a, a, api.ErrImage},
		{"a delete with cells behind", key, frame.Delete, image.Key, k, a, api.ErrImage},
		{"a delete with one cell behind", full, frame.Delete, image.Full, a, row.Row{null}, api.ErrImage},

		{"an insert with a key image", key, frame.Insert, image.Key, k, b, api.ErrImage},
		{"an insert with a full image", full, frame.Insert, image.Full, a, a, api.ErrImage},
		{"an insert with a key image of no cells", key, frame.Insert, image.Key, nil, a, api.ErrImage},
		{"an update by nothing with a key image", nothing, frame.Update, image.Key, k, b, api.ErrImage},
		{"an update by nothing with a full image", nothing, frame.Update, image.Full, a, b, api.ErrImage},
		{"an update by key with a full image", key, frame.Update, image.Full, a, b, api.ErrImage},
		{"an update by full with none", full, frame.Update, image.None, nil, a, api.ErrImage},
		{"an update by full with a key image", full, frame.Update, image.Key, k, b, api.ErrImage},
		{"a delete by nothing", nothing, frame.Delete, image.None, nil, nil, api.ErrImage},
		{"a delete by nothing with a key image", nothing, frame.Delete, image.Key, k, nil, api.ErrImage},
		{"a delete by nothing with a full image", nothing, frame.Delete, image.Full, a, nil, api.ErrImage},
		{"a delete by key with none", key, frame.Delete, image.None, nil, nil, api.ErrImage},
		{"a delete by key with a full image", key, frame.Delete, image.Full, a, nil, api.ErrImage},
		{"a delete by full with none", full, frame.Delete, image.None, nil, nil, api.ErrImage},
		{"a delete by full with a key image", full, frame.Delete, image.Key, k, nil, api.ErrImage},

		{"an insert by no identity", other, frame.Insert, image.None, nil, a, api.ErrKind},
		{"an insert by no identity with a key image", other, frame.Insert, image.Key, k, a, api.ErrImage},
		{"an update by no identity with none", other, frame.Update, image.None, nil, a, api.ErrImage},
		{"an update by no identity with a key image", other, frame.Update, image.Key, k, b, api.ErrImage},
		{"an update by no identity with a full image", other, frame.Update, image.Full, a, b, api.ErrImage},
		{"a delete by no identity with none", other, frame.Delete, image.None, nil, nil, api.ErrImage},
		{"a delete by no identity with a key image", other, frame.Delete, image.Key, k, nil, api.ErrImage},
		{"a delete by no identity with a full image", other, frame.Delete, image.Full, a, nil, api.ErrImage},

		{"a key image of no cells", key, frame.Delete, image.Key, nil, nil, api.ErrCount},
		{"a full image of no cells", full, frame.Update, image.Full, nil, b, api.ErrCount},
		{"a key image of one cell more", key, frame.Delete, image.Key, of("a", "-", "-", "-"), nil, api.ErrCount},
		{"a key image with a null key", key, frame.Delete, image.Key, of("-", "-", "-"), nil, api.ErrNull},
		{"a key image with a same key", key, frame.Update, image.Key, of("=", "-", "-"), b, api.ErrKey},
		{"a key image with another cell", key, frame.Update, image.Key, of("a", "b", "-"), b, api.ErrImage},
		{"a full image with a null key", full, frame.Delete, image.Full, of("-", "b", "-"), nil, api.ErrNull},
		{"a full image with a same key", full, frame.Update, image.Full, of("=", "b", "-"), b, api.ErrKey},
		{"a full image with a same cell", full, frame.Update, image.Full, of("a", "b", "="), b, api.ErrImage},
		{"a key image that does not fit", key, frame.Delete, image.Key, row.Row{sample.Int(1), null, null}, nil, api.ErrType},
		{"a full image that does not fit", full, frame.Delete, image.Full, row.Row{sample.Text("a"), noKind, null}, nil, api.ErrKind},

		{"an insert of no cells", key, frame.Insert, image.None, nil, nil, api.ErrCount},
		{"an insert of one cell fewer", key, frame.Insert, image.None, nil, of("a", "b"), api.ErrCount},
		{"an insert with a null key", key, frame.Insert, image.None, nil, of("-", "b", "c"), api.ErrNull},
		{"an insert with a same key", nothing, frame.Insert, image.None, nil, of("=", "b", "c"), api.ErrKey},
		{"an insert with a same cell", key, frame.Insert, image.None, nil, of("a", "b", "="), api.ErrImage},
		{"an update of no cells", key, frame.Update, image.None, nil, nil, api.ErrCount},
		{"an update of one cell more", nothing, frame.Update, image.None, nil, of("a", "b", "c", "-"), api.ErrCount},
		{"an update with a null key", key, frame.Update, image.None, nil, of("-", "b", "c"), api.ErrNull},
		{"an update with a same key", key, frame.Update, image.None, nil, of("=", "b", "c"), api.ErrKey},
		{"an update by nothing with a same key", nothing, frame.Update, image.None, nil, of("=", "b", "c"), api.ErrKey},
		{"an update by full with a same key", full, frame.Update, image.Full, a, of("=", "b", "c"), api.ErrKey},
		{"an update that does not fit", key, frame.Update, image.None, nil, row.Row{sample.Text("a"), noKind, null}, api.ErrKind},
	})
}

func TestP122SeveralWrong(t *testing.T) {
	nothing, key, full, other := texts(3, rel.Nothing, 0), texts(3, rel.Key, 0), texts(3, rel.Full, 0), texts(3, 3, 0)
	two := texts(3, rel.Full, 0, 2)
	a, b, k := of("a", "b", "-"), of("b", "b", "-"), of("a", "-", "-")
	noKey := texts(3, rel.Key)
	hold(t, []told{
		{"the kind ahead of the image's", key, 0, 3, k, nil, api.ErrKind},
		{"the kind ahead of cells ahead", key, frame.Truncate, image.None, a, a, api.ErrKind},
		{"the kind ahead of the identity", nothing, frame.Commit, image.Full, a, nil, api.ErrKind},
		{"the kind ahead of no relation", rel.Rel{}, 9, image.None, nil, nil, api.ErrKind},
		{"the kind ahead of the images", key, 0, image.Key, of("="), of("-"), api.ErrKind},
		{"the image's kind ahead of the relation", oidless(full), frame.Update, 3, a, a, api.ErrImage},
		{"the image's kind ahead of the images", full, frame.Update, 3, of("-"), of("-"), api.ErrImage},
		{"cells ahead ahead of the relation", oidless(key), frame.Insert, image.None, a, a, api.ErrImage},
		{"cells ahead ahead of the new one", key, frame.Update, image.None, a, nil, api.ErrImage},
		{"cells behind ahead of the relation", oidless(key), frame.Delete, image.Key, k, a, api.ErrImage},
		{"cells behind ahead of the old one", key, frame.Delete, image.Key, nil, a, api.ErrImage},
		{"the identity ahead of the relation", oidless(key), frame.Update, image.Full, a, b, api.ErrImage},
		{"the identity ahead of the images", key, frame.Update, image.Full, nil, of("-", "-", "-"), api.ErrImage},
		{"the identity ahead of the relation of a delete", oidless(nothing), frame.Delete, image.None, nil, nil, api.ErrImage},
		{"the identity that is none ahead of the relation", oidless(other), frame.Update, image.None, nil, a, api.ErrImage},
		{"no columns by nothing, of a delete", rel.Rel{}, frame.Delete, image.None, nil, nil, api.ErrImage},

		{"the relation of an insert", oidless(key), frame.Insert, image.None, nil, a, api.ErrRange},
		{"the relation of an insert by no identity", oidless(other), frame.Insert, image.None, nil, a, api.ErrRange},
		{"the relation of an update", oidless(key), frame.Update, image.None, nil, a, api.ErrRange},
		{"the relation of an update by full", oidless(full), frame.Update, image.Full, a, a, api.ErrRange},
		{"the relation of a delete", oidless(key), frame.Delete, image.Key, k, nil, api.ErrRange},
		{"the relation ahead of the count", oidless(full), frame.Delete, image.Full, nil, nil, api.ErrRange},
		{"a key that is none ahead of the images", noKey, frame.Delete, image.Key, of("-", "-", "="), nil, api.ErrKey},

		{"the old one ahead of the new one's count", full, frame.Update, image.Full, of("-", "b", "c"), nil, api.ErrNull},
		{"the old one's count ahead of the new one", full, frame.Update, image.Full, of("a", "b"), of("-", "b", "c"), api.ErrCount},
		{"the old one's cell ahead of the new one's key", full, frame.Update, image.Full, of("a", "=", "c"), of("-", "b", "c"), api.ErrImage},
		{"the old one's key ahead of the new one's cell", key, frame.Update, image.Key, of("=", "-", "-"), row.Row{noKind, null, null}, api.ErrKey},
		{"a key image that is none ahead of the new one", key, frame.Update, image.Key, of("a", "b", "-"), of("=", "=", "="), api.ErrImage},
		{"a new one's count ahead of the key that is the same", key, frame.Update, image.Key, k, of("a", "b"), api.ErrCount},
		{"a new one's null key ahead of its same one", two, frame.Update, image.Full, of("a", "b", "c"), of("-", "b", "="), api.ErrNull},
		{"a new one's same key ahead of its null one", two, frame.Update, image.Full, of("a", "b", "c"), of("=", "b", "-"), api.ErrKey},
		{"an insert's null key ahead of a same cell", key, frame.Insert, image.None, nil, of("-", "=", "c"), api.ErrNull},
		{"an insert's last key ahead of a same cell", two, frame.Insert, image.None, nil, of("a", "=", "-"), api.ErrNull},
	})
}

func TestP122TheSameKey(t *testing.T) {
	one, two := texts(3, rel.Key, 0), texts(3, rel.Key, 0, 2)
	last := texts(3, rel.Key, 2)
	number := sample.Keyed(sample.Rel(value.Float, value.Text), rel.Key, 0)
	pair := sample.Keyed(sample.Rel(value.Complex, value.Text), rel.Key, 0)
	float := func(f float64) row.Row { return row.Row{sample.Float(f), null} }
	complexOf := func(re, im float64) row.Row { return row.Row{sample.Complex(complex(re, im)), null} }
	hold(t, []told{
		{"the key of the new one", one, frame.Update, image.Key, of("a", "-", "-"), of("a", "b", "c"), api.ErrKey},
		{"the new one itself", one, frame.Update, image.Key, of("a", "-", "-"), of("a", "-", "-"), api.ErrKey},
		{"with same cells elsewhere", one, frame.Update, image.Key, of("a", "-", "-"), of("a", "=", "="), api.ErrKey},
		{"the last column", last, frame.Update, image.Key, of("-", "-", "c"), of("a", "b", "c"), api.ErrKey},
		{"another last column", last, frame.Update, image.Key, of("-", "-", "d"), of("a", "b", "c"), api.OK},
		{"a large key", one, frame.Update, image.Key, of(long, "-", "-"), of(long, "b", "c"), api.ErrKey},
		{"another large key", one, frame.Update, image.Key, of(long, "-", "-"), of(long+"x", "b", "c"), api.OK},
		{"an empty key", one, frame.Update, image.Key, of("", "-", "-"), of("", "b", "c"), api.ErrKey},
		{"another key", one, frame.Update, image.Key, of("a", "-", "-"), of("b", "b", "c"), api.OK},
		{"both columns", two, frame.Update, image.Key, of("a", "-", "c"), of("a", "b", "c"), api.ErrKey},
		{"the first of two alone", two, frame.Update, image.Key, of("a", "-", "c"), of("a", "b", "d"), api.OK},
		{"the last of two alone", two, frame.Update, image.Key, of("a", "-", "c"), of("b", "b", "c"), api.OK},
		{"turned round", two, frame.Update, image.Key, of("a", "-", "c"), of("c", "b", "a"), api.OK},
		{"0", number, frame.Update, image.Key, float(0), float(0), api.ErrKey},
		{"0 and -0", number, frame.Update, image.Key, float(0), float(negative), api.OK},
		{"a NaN", number, frame.Update, image.Key, float(nan), float(nan), api.ErrKey},
		{"a NaN of other bits", number, frame.Update, image.Key, float(nan), float(otherNaN), api.OK},
		{"a complex key", pair, frame.Update, image.Key, complexOf(1, nan), complexOf(1, nan), api.ErrKey},
		{"another imaginary part", pair, frame.Update, image.Key, complexOf(1, 0), complexOf(1, negative), api.OK},
		{"a delete", one, frame.Delete, image.Key, of("a", "-", "-"), nil, api.OK},
		{"a full image with the same key", texts(3, rel.Full, 0), frame.Update, image.Full, of("a", "b", "c"), of("a", "b", "c"), api.OK},
		{"a full image with a key alone", texts(3, rel.Full, 0), frame.Update, image.Full, of("a", "-", "-"), of("a", "b", "c"), api.OK},
	})
}

// Each kind, each kind of image, each identity, and images that are right, wrong, and not there.
func TestP122ByItsWords(t *testing.T) {
	found := map[api.Errno]int{}
	for _, key := range [][]int{nil, {0}, {1}, {0, 1}, {2}} {
		for identity := range uint8(5) {
			r := texts(3, identity, key...)
			full := of("a", "b", "c")
			images := []row.Row{nil, full, of("d", "e", "f"), keyOfByWords(r, full), of("-", "-", "-"), of("=", "=", "="), of("a", "-", "="), of("-", "=", "c"), of("a", "b", "="), of("a", "=", "c"), of("a", "b", "-"), full[:2], append(slices.Clone(full), null), put(full, 2, noKind), put(full, 0, sample.Int(1))}
			for _, o := range []rel.Rel{r, oidless(r)} {
				for _, before := range images {
					for _, after := range images {
						for _, kind := range kinds {
							for _, old := range olds {
								e, want := image.Right(o, kind, old, before, after), rightByWords(o, kind, old, before, after)
								if e != want {
									t.Fatalf("%v, kind %d, image %d, %v, %v: %d, not %d", o, kind, old, before, after, e, want)
								}
								found[e]++
							}
						}
					}
				}
			}
		}
	}
	for _, e := range []api.Errno{api.OK, api.ErrCount, api.ErrNull, api.ErrKey, api.ErrImage, api.ErrKind, api.ErrType, api.ErrRange} {
		if found[e] < 100 {
			t.Errorf("error %d is told %d times", e, found[e])
		}
	}
}

func TestP122ManyByItsWords(t *testing.T) {
	found := map[api.Errno]int{}
	for _, r := range keyedRels() {
		rows := rowsOf(r, 3)
		for k, before := range rows {
			for step := range 5 {
				after := rows[(k+step*step*3)%len(rows)]
				for kind := uint8(frame.Piece); kind <= frame.Truncate; kind++ {
					for old := range uint8(4) {
						e, want := image.Right(r, kind, old, before, after), rightByWords(r, kind, old, before, after)
						if e != want {
							t.Fatalf("%v, kind %d, image %d, %v, %v: %d, not %d", r, kind, old, before, after, e, want)
						}
						found[e]++
					}
				}
			}
		}
	}
	if found[api.OK] < 100 || found[api.ErrKey] < 100 || found[api.ErrNull] < 100 {
		t.Errorf("%v", found)
	}
}

func TestP123Merge(t *testing.T) {
	for _, x := range []struct {
		name          string
		before, after row.Row
		want          row.Row
	}{
		{"nothing", nil, nil, nil},
		{"no cells behind", of("a", "b"), nil, nil},
		{"no cells ahead", nil, of("a", "=", "-"), of("a", "=", "-")},
		{"none is same", of("a", "b", "c"), of("d", "-", "f"), of("d", "-", "f")},
		{"all are same", of("a", "-", "c"), of("=", "=", "="), of("a", "-", "c")},
		{"the first one", of("a", "b", "c"), of("=", "e", "f"), of("a", "e", "f")},
		{"the one between", of("a", "b", "c"), of("d", "=", "f"), of("d", "b", "f")},
		{"the last one", of("a", "b", "c"), of("d", "e", "="), of("d", "e", "c")},
		{"the first and the last one", of("a", "b", "c"), of("=", "-", "="), of("a", "-", "c")},
		{"a null one ahead", of("-", "b"), of("=", "="), of("-", "b")},
		{"a null one behind stays", of("a", "b"), of("-", "="), of("-", "b")},
		{"an empty one ahead", of("", "b"), of("=", "c"), of("", "c")},
		{"a large one", of(long, "b"), of("=", "c"), of(long, "c")},
		{"same ones ahead", of("=", "b", "="), of("=", "=", "f"), of("=", "b", "f")},
		{"same ones ahead and behind", of("="), of("="), of("=")},
		{"fewer ahead", of("a"), of("=", "=", "c"), of("a", "=", "c")},
		{"one fewer ahead", of("a", "b"), of("=", "e", "="), of("a", "e", "=")},
		{"more ahead", of("a", "b", "c", "d"), of("=", "="), of("a", "b")},
		{"one more ahead", of("a", "b", "c"), of("d", "="), of("d", "b")},
		{"another type", row.Row{sample.Int(7)}, of("="), row.Row{sample.Int(7)}},
		{"bit by bit", row.Row{sample.Float(otherNaN), sample.Float(negative)}, of("=", "="), row.Row{sample.Float(otherNaN), sample.Float(negative)}},
		{"cells of kinds there are not", row.Row{noKind, sample.Text("b")}, row.Row{same, noKind}, row.Row{noKind, noKind}},
		{"a same one with a value", of("a", "b"), row.Row{{Kind: cell.Same, Value: value.Value{Int: 1}}}, of("a")},
		{"one ahead with a value", row.Row{{Kind: cell.Same, Value: value.Value{Int: 1}}}, of("="), row.Row{{Kind: cell.Same, Value: value.Value{Int: 1}}}},
	} {
		if o := image.Merge(x.before, x.after); !sample.EqualRow(o, x.want) {
			t.Errorf("%s: %v, not %v", x.name, o, x.want)
		}
	}
}

func TestP123ByItsWords(t *testing.T) {
	rows := []row.Row{nil}
	for _, r := range []rel.Rel{texts(1, 0), texts(2, 0), texts(3, 0), sample.Wide(9, 4), sample.Wide(9, 3), texts(16, 0), sample.Rel(value.Bytes, value.Text)} {
		rows = append(rows, rowsOf(r, 6)...)
		rows = append(rows, slices.Repeat(row.Row{same}, len(r.Columns)))
	}
	for _, before := range rows {
		for _, after := range rows {
			if o := image.Merge(before, after); !sample.EqualRow(o, mergeByWords(before, after)) {
				t.Fatalf("%v and %v: %v", before, after, o)
			}
		}
	}
}

func TestP124KeyImages(t *testing.T) {
	keys, full := 0, 0
	for _, r := range keyedRels() {
		for _, w := range rowsOf(r, 9) {
			k := image.KeyOf(r, w)
			if image.IsFull(r, w) == api.OK {
				full++
				if e := image.IsKey(r, k); e != api.OK {
					t.Fatalf("%v of %v: the key %v is none: %d", w, r, k, e)
				}
			}
			if image.IsKey(r, w) == api.OK {
				keys++
				if !sample.EqualRow(k, w) {
					t.Fatalf("%v of %v: its key is %v", w, r, k)
				}
			}
			if !sample.EqualRow(image.KeyOf(r, k), k) {
				t.Fatalf("%v of %v: the key of its key is another", w, r)
			}
		}
	}
	if keys < 1000 || full < 1000 {
		t.Errorf("%d key images, %d full ones", keys, full)
	}
}

// isSame: is a cell same?
func isSame(c cell.Cell) bool { return c.Kind == cell.Same }

func TestP124Merged(t *testing.T) {
	merged := 0
	for _, r := range append(sample.Rels(), texts(3, 0), texts(16, 0)) {
		rows := sample.Rows(r, 12)
		for _, before := range rows {
			for _, after := range rows {
				if slices.ContainsFunc(before, isSame) {
					continue
				}
				o := image.Merge(before, after)
				if slices.ContainsFunc(o, isSame) || len(o) != len(after) {
					t.Fatalf("%v and %v: %v", before, after, o)
				}
				if slices.ContainsFunc(after, isSame) {
					merged++
				}
				// What is merged is a full image, if before is one, and after a new one.
				if image.IsFull(r, before) == api.OK && image.Right(r, frame.Update, image.None, nil, after) == api.OK && image.IsFull(r, o) != api.OK {
					t.Fatalf("%v and %v: %v is no full image", before, after, o)
				}
			}
		}
	}
	if merged < 100 {
		t.Errorf("%d rows with same cells", merged)
	}
}

func TestR1AnyArguments(t *testing.T) {
	var w row.Row
	for kind := range uint8(9) {
		w = slices.Concat(w, sample.WrongCells(kind), sample.RightCells(kind))
	}
	for _, r := range append(keyedRels(), sample.Keyed(sample.Wide(200, 0), 200, 0, 199)) {
		n := len(r.Columns)
		for _, o := range []row.Row{nil, w, w[:1], w[:min(n, len(w))], make(row.Row, n), make(row.Row, n+1), make(row.Row, max(n, 1)-1)} {
			if !sample.EqualRow(image.KeyOf(r, o), keyOfByWords(r, o)) || !sample.EqualRow(image.Merge(o, w), mergeByWords(o, w)) {
				t.Fatalf("%v of %v", o, r)
			}
			for kind := range 256 {
				if e := image.Right(r, uint8(kind), uint8(kind), o, o); e != rightByWords(r, uint8(kind), uint8(kind), o, o) {
					t.Fatalf("kind %d, %v of %v: %d", kind, o, r, e)
				}
				if e := image.Right(r, frame.Update, uint8(kind), o, o); e != rightByWords(r, frame.Update, uint8(kind), o, o) {
					t.Fatalf("image %d, %v of %v: %d", kind, o, r, e)
				}
			}
		}
	}
}

func TestR3NoneAndEmpty(t *testing.T) {
	key, empty := texts(2, rel.Key, 0), row.Row{}
	if len(image.KeyOf(key, empty)) != 0 || len(image.KeyOf(key, nil)) != 0 {
		t.Error("the key of no cells")
	}
	if image.IsKey(key, empty) != image.IsKey(key, nil) || image.IsFull(key, empty) != image.IsFull(key, nil) {
		t.Error("images of no cells")
	}
	if len(image.Merge(empty, empty)) != 0 || len(image.Merge(nil, empty)) != 0 || !sample.EqualRow(image.Merge(empty, of("=")), of("=")) {
		t.Error("no cells, merged")
	}
	for _, kind := range kinds {
		for _, old := range olds {
			for _, w := range []row.Row{of("a", "-"), of("b", "c"), nil} {
				if image.Right(key, kind, old, empty, w) != image.Right(key, kind, old, nil, w) || image.Right(key, kind, old, w, empty) != image.Right(key, kind, old, w, nil) {
					t.Errorf("kind %d, image %d, %v: none and empty are not one", kind, old, w)
				}
			}
		}
	}
}

func TestR4HandedIn(t *testing.T) {
	r, kept := texts(3, rel.Key, 0), texts(3, rel.Key, 0)
	room := of("a", "=", "-", "room")
	before, after := room[:3], of("b", "=", "=")
	key, merged := image.KeyOf(r, before), image.Merge(before, after)
	image.IsKey(r, before)
	image.IsFull(r, before)
	for _, kind := range kinds {
		for _, old := range olds {
			image.Right(r, kind, old, before, after)
			image.Right(r, kind, old, key, after)
		}
	}
	if !sample.EqualRow(room, of("a", "=", "-", "room")) || !sample.EqualRow(after, of("b", "=", "=")) || !sample.EqualRel(r, kept) {
		t.Fatalf("%v, %v, %v: what is handed in is changed", room, after, r)
	}
	// What was handed in is changed afterwards.
	clear(room)
	clear(after)
	clear(r.Columns)
	if !sample.EqualRow(key, of("a", "-", "-")) || !sample.EqualRow(merged, of("b", "=", "-")) {
		t.Errorf("%v, %v", key, merged)
	}
}

func TestR4HandedOut(t *testing.T) {
	r := texts(2, rel.Key, 0, 1)
	room := of("a", "b", "room")
	before, after := room[:2], of("c", "d", "room")
	// Nothing is left out, and nothing is the same: the answers are like what was handed in.
	one, two := image.KeyOf(r, before), image.KeyOf(r, before)
	clear(one)
	_ = append(one, null)
	first, second := image.Merge(before, after[:2]), image.Merge(before, after[:2])
	clear(first)
	_ = append(first, null)
	whole := image.Merge(before, of("=", "="))
	clear(whole)
	_ = append(whole, null)
	if !sample.EqualRow(room, of("a", "b", "room")) || !sample.EqualRow(after, of("c", "d", "room")) {
		t.Errorf("%v, %v: an answer shares memory with what was handed in", room, after)
	}
	if !sample.EqualRow(two, of("a", "b")) || !sample.EqualRow(second, of("c", "d")) {
		t.Errorf("%v, %v: an answer shares memory with another one", two, second)
	}
}

func TestR6Again(t *testing.T) {
	key, nothing := texts(2, rel.Key, 0), texts(2, rel.Nothing, 0)
	for range 3 {
		if e := image.Right(nothing, frame.Delete, image.Key, of("a", "-"), nil); e != api.ErrImage {
			t.Errorf("error %d", e)
		}
		if e := image.Right(key, frame.Delete, image.Key, of("a", "-"), nil); e != api.OK {
			t.Errorf("error %d", e)
		}
		if o := image.KeyOf(key, of("a", "b")); !sample.EqualRow(o, of("a", "-")) {
			t.Errorf("%v", o)
		}
		if o := image.Merge(of("a", "b"), of("=", "c")); !sample.EqualRow(o, of("a", "c")) {
			t.Errorf("%v", o)
		}
	}
}

func TestExamples(t *testing.T) {
	r := rel.Rel{Ref: rel.Ref{Oid: 1, Version: 1}, Name: "t", Identity: rel.Key, Columns: []rel.Column{{Name: "a", Type: value.Int, Key: true}, {Name: "b", Type: value.Int}}}
	if o := image.KeyOf(r, row.Row{sample.Int(1), sample.Int(2)}); !sample.EqualRow(o, row.Row{sample.Int(1), null}) {
		t.Errorf("%v", o)
	}
	r.Identity = rel.Nothing
	for old := range uint8(3) {
		for _, w := range []row.Row{nil, {sample.Int(1), null}, {sample.Int(1), sample.Int(2)}} {
			if e := image.Right(r, frame.Delete, old, w, nil); e != api.ErrImage {
				t.Errorf("error %d", e)
			}
		}
	}
}
