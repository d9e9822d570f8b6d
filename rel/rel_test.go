package rel_test

import (
	"bytes"
	"iter"
	"math"
	"slices"
	"strconv"
	"strings"
	"testing"

	"lacuna/api"
	"lacuna/prim"
	"lacuna/rel"
	"lacuna/sample"
	"lacuna/value"
)

// made is a relation of the oid 5, the version 1 and the name "t".
func made(identity uint8, columns ...rel.Column) rel.Rel {
	return rel.Rel{Ref: rel.Ref{Oid: 5, Version: 1}, Name: "t", Identity: identity, Columns: columns}
}

// ints are n columns of ints with different names, none of the key.
func ints(n int) []rel.Column {
	var l []rel.Column
	for k := range n {
		l = append(l, rel.Column{Name: "c" + strconv.Itoa(k), Type: value.Int})
	}
	return l
}

// with are the columns, one of them changed.
func with(l []rel.Column, at int, c rel.Column) []rel.Column {
	l = slices.Clone(l)
	l[at] = c
	return l
}

var names = []string{
	"a", "z", "t", "m5", "a_", "z_9", "a0", "abc_def_0189", strings.Repeat("a", 30), strings.Repeat("z", 31), "a" + strings.Repeat("_", 30),
	"", strings.Repeat("a", 32), strings.Repeat("a", 100), "A", "Z", "0", "9", "_", "_a", "`", "{", " ", "a ", " a", "aA", "aZ", "a`", "a{", "a/", "a:", "a-", "a^",
	"a\x00", "\x00", "é", "aé", "a\xff", "\x80", "ab.c", "abcd\n",
}

// isName is what the chapter calls a name.
func isName(s string) bool {
	if len(s) < 1 || len(s) > 31 || !strings.Contains("abcdefghijklmnopqrstuvwxyz", s[:1]) {
		return false
	}
	return strings.Trim(s, "abcdefghijklmnopqrstuvwxyz0123456789_") == ""
}

// wrong is what is wrong with a relation, as P8.1 says it.
func wrong(r rel.Rel) api.Errno {
	switch {
	case r.Oid < 1, r.Version < 1:
		return api.ErrRange
	case !isName(r.Name):
		return api.ErrForm
	case r.Identity != 0 && r.Identity != 1 && r.Identity != 2:
		return api.ErrKind
	case len(r.Columns) < 1, len(r.Columns) > 16:
		return api.ErrCount
	}
	seen := map[string]bool{}
	key := false
	for _, c := range r.Columns {
		switch {
		case !isName(c.Name):
			return api.ErrForm
		case seen[c.Name]:
			return api.ErrExists
		case c.Type < 1, c.Type > 6:
			return api.ErrType
		}
		seen[c.Name] = true
		key = key || c.Key
	}
	if r.Identity == 1 && !key {
		return api.ErrKey
	}
	return api.OK
}

// several are relations, right and wrong.
func several() []rel.Rel {
	var l []rel.Rel
	put := func(r rel.Rel) { l = append(l, r) }
	col := rel.Column{Name: "a", Type: value.Int}
	key := rel.Column{Name: "k", Type: value.Text, Key: true}
	numbers := []uint32{0, 1, 2, 127, 128, 300, 1 << 31, math.MaxUint32 - 1, math.MaxUint32}
	for _, oid := range numbers {
		for _, version := range numbers {
			put(rel.Rel{Ref: rel.Ref{Oid: oid, Version: version}, Name: "t", Columns: []rel.Column{col}})
		}
	}
	for _, s := range names {
		put(rel.Rel{Ref: rel.Ref{Oid: 1, Version: 1}, Name: s, Columns: []rel.Column{col}})
		put(made(rel.Key, rel.Column{Name: s, Type: value.Bool, Key: true}))
		put(made(rel.Nothing, col, rel.Column{Name: s, Type: value.Bool}))
		for _, o := range names {
			put(made(rel.Full, rel.Column{Name: s, Type: value.Bytes}, rel.Column{Name: o, Type: value.Bytes}))
		}
	}
	for _, identity := range []uint8{0, 1, 2, 3, 4, 128, 255} {
		put(made(identity))
		put(made(identity, col))
		put(made(identity, key))
		put(made(identity, col, key))
		put(made(identity, key, col))
		for n := range 19 {
			put(made(identity, ints(n)...))
			put(made(identity, append(ints(n), key)...))
			put(made(identity, append([]rel.Column{key}, ints(n)...)...))
		}
		for _, kind := range []uint8{0, 1, 2, 3, 4, 5, 6, 7, 8, 127, 128, 129, 134, 255} {
			for _, k := range []bool{false, true} {
				put(made(identity, rel.Column{Name: "a", Type: kind, Key: k}))
				put(made(identity, key, rel.Column{Name: "a", Type: kind, Key: k}))
			}
		}
	}
	// Several things are wrong at once, in all ways.
	for _, oid := range []uint32{0, 5} {
		for _, name := range []string{"t", "T"} {
			for _, identity := range []uint8{1, 3} {
				for _, columns := range [][]rel.Column{
					nil, {col}, {key}, ints(17), {col, col}, {key, key}, {{Name: "a"}}, {{Name: "A"}}, {{Name: "A", Key: true}, col, col},
					{col, {Name: "a", Type: 9}}, {{Name: "a", Type: 9}, {Name: "a", Type: 9}}, {{Name: "a", Type: 9}, {Name: "A"}}, {{}, {}}, ints(20)[3:],
				} {
					put(rel.Rel{Ref: rel.Ref{Oid: oid, Version: 1}, Name: name, Identity: identity, Columns: columns})
				}
			}
		}
	}
	return l
}

func TestIdentities(t *testing.T) {
	if l := []int{rel.Nothing, rel.Key, rel.Full}; !slices.Equal(l, []int{0, 1, 2}) {
		t.Error(l)
	}
}

func TestP81Compare(t *testing.T) {
	// In order.
	l := []rel.Ref{
		{}, {Oid: 0, Version: 1}, {Oid: 0, Version: math.MaxUint32}, {Oid: 1}, {Oid: 1, Version: 1}, {Oid: 1, Version: 2}, {Oid: 1, Version: 1 << 31},
		{Oid: 1, Version: math.MaxUint32}, {Oid: 2}, {Oid: 2, Version: 1}, {Oid: 1 << 31, Version: 1}, {Oid: math.MaxUint32}, {Oid: math.MaxUint32, Version: math.MaxUint32},
	}
	for j, a := range l {
		for k, b := range l {
			want := 0
			if j < k {
				want = -1
			}
			if j > k {
				want = 1
			}
			if n := a.Compare(b); n != want {
				t.Errorf("%v and %v: %d, not %d", a, b, n, want)
			}
			// A relation has the methods of its ref.
			if n := (rel.Rel{Ref: a, Name: "z"}).Compare(b); n != want {
				t.Errorf("a relation of %v and %v: %d, not %d", a, b, n, want)
			}
		}
	}
	if !slices.IsSortedFunc(l, rel.Ref.Compare) {
		t.Error("not in order")
	}
}

func TestP81Right(t *testing.T) {
	col := rel.Column{Name: "a", Type: value.Int}
	key := rel.Column{Name: "k", Type: value.Int, Key: true}
	long := strings.Repeat("n", 32)
	for _, x := range []struct {
		name string
		r    rel.Rel
		e    api.Errno
	}{
		{"nothing", rel.Rel{}, api.ErrRange},
		{"identity nothing", made(rel.Nothing, col), api.OK},
		{"identity full", made(rel.Full, col), api.OK},
		{"identity nothing with a key", made(rel.Nothing, key), api.OK},
		{"identity full with a key", made(rel.Full, col, key), api.OK},
		{"identity key with a key", made(rel.Key, key), api.OK},
		{"identity key with a key behind", made(rel.Key, col, key), api.OK},
		{"identity key without", made(rel.Key, col), api.ErrKey},
		{"identity 3", made(3, col), api.ErrKind},
		{"identity 255", made(255, key), api.ErrKind},
		{"oid 0", rel.Rel{Ref: rel.Ref{Version: 1}, Name: "t", Columns: ints(1)}, api.ErrRange},
		{"version 0", rel.Rel{Ref: rel.Ref{Oid: 1}, Name: "t", Columns: ints(1)}, api.ErrRange},
		{"the greatest ones", rel.Rel{Ref: rel.Ref{Oid: math.MaxUint32, Version: math.MaxUint32}, Name: "t", Columns: ints(1)}, api.OK},
		{"no column", made(rel.Nothing), api.ErrCount},
		{"16 columns", made(rel.Nothing, ints(16)...), api.OK},
		{"17 columns", made(rel.Nothing, ints(17)...), api.ErrCount},
		{"a column without a name", made(rel.Nothing, rel.Column{Type: 1}), api.ErrForm},
		{"a column of a long name", made(rel.Nothing, rel.Column{Name: long, Type: 1}), api.ErrForm},
		{"a column of 31 bytes of name", made(rel.Nothing, rel.Column{Name: long[1:], Type: 1}), api.OK},
		{"one name twice", made(rel.Nothing, col, rel.Column{Name: "b", Type: 1}, rel.Column{Name: "a", Type: 1}), api.ErrExists},
		{"the relation's name", made(rel.Nothing, rel.Column{Name: "t", Type: 1}), api.OK},
		{"a column of the type 0", made(rel.Nothing, rel.Column{Name: "a"}), api.ErrType},
		{"a column of the type 7", made(rel.Nothing, col, rel.Column{Name: "b", Type: 7}), api.ErrType},
		{"a column of the type 130", made(rel.Nothing, rel.Column{Name: "a", Type: 130}), api.ErrType},

		{"range ahead of the name", rel.Rel{Name: "T", Identity: 3}, api.ErrRange},
		{"name ahead of the identity", rel.Rel{Ref: rel.Ref{Oid: 1, Version: 1}, Name: "T", Identity: 3}, api.ErrForm},
		{"identity ahead of the count", made(3), api.ErrKind},
		{"identity ahead of a column", made(3, rel.Column{}), api.ErrKind},
		{"count ahead of a column", made(rel.Key, make([]rel.Column, 17)...), api.ErrCount},
		{"a column's name ahead of its type", made(rel.Nothing, rel.Column{Name: "A", Type: 9}), api.ErrForm},
		{"no name twice ahead of one name twice", made(rel.Nothing, col, rel.Column{}, rel.Column{}), api.ErrForm},
		{"one name twice ahead of its type", made(rel.Nothing, col, rel.Column{Name: "a", Type: 9}), api.ErrExists},
		{"a type ahead of the next name", made(rel.Nothing, rel.Column{Name: "a", Type: 9}, rel.Column{Name: "A"}), api.ErrType},
		{"a type ahead of the next one's same name", made(rel.Nothing, rel.Column{Name: "a", Type: 9}, col), api.ErrType},
		{"one name twice ahead of the next type", made(rel.Nothing, col, col, rel.Column{Name: "b"}), api.ErrExists},
		{"a column ahead of the key", made(rel.Key, rel.Column{Name: "a", Type: 9}), api.ErrType},
	} {
		if e := x.r.Right(); e != x.e {
			t.Errorf("%s: %d, not %d", x.name, e, x.e)
		}
	}
	for _, r := range several() {
		if e := r.Right(); e != wrong(r) {
			t.Errorf("%v: %d, not %d", r, e, wrong(r))
		}
	}
}

func TestP81Names(t *testing.T) {
	for b := range 256 {
		c := string([]byte{byte(b)})
		first := b >= 'a' && b <= 'z'
		later := first || b >= '0' && b <= '9' || b == '_'
		for name, right := range map[string]bool{c: first, c + "a": first, "a" + c: later, "a" + c + "a": later, strings.Repeat("a", 30) + c: later, strings.Repeat("a", 31) + c: false} {
			want := api.OK
			if !right {
				want = api.ErrForm
			}
			r := rel.Rel{Ref: rel.Ref{Oid: 1, Version: 1}, Name: name, Columns: ints(1)}
			if e := r.Right(); e != want {
				t.Errorf("the name %q: %d, not %d", name, e, want)
			}
			if e := made(rel.Nothing, rel.Column{Name: name, Type: value.Int}).Right(); e != want {
				t.Errorf("a column of the name %q: %d, not %d", name, e, want)
			}
		}
	}
}

func TestP81Same(t *testing.T) {
	a := made(rel.Key, append(ints(2), rel.Column{Name: "k", Type: value.Text, Key: true})...)
	other := func(change func(*rel.Rel)) rel.Rel {
		o := a
		o.Columns = slices.Clone(a.Columns)
		change(&o)
		return o
	}
	for name, o := range map[string]rel.Rel{
		"the oid":                other(func(o *rel.Rel) { o.Oid++ }),
		"the version":            other(func(o *rel.Rel) { o.Version++ }),
		"oid and version":        other(func(o *rel.Rel) { o.Oid, o.Version = o.Version, o.Oid }),
		"the name":               other(func(o *rel.Rel) { o.Name = "u" }),
		"the identity":           other(func(o *rel.Rel) { o.Identity = rel.Full }),
		"no columns":             other(func(o *rel.Rel) { o.Columns = nil }),
		"one column less":        other(func(o *rel.Rel) { o.Columns = o.Columns[:2] }),
		"one column more":        other(func(o *rel.Rel) { o.Columns = append(o.Columns, rel.Column{}) }),
		"a column's name":        other(func(o *rel.Rel) { o.Columns[2].Name = "l" }),
		"a column's type":        other(func(o *rel.Rel) { o.Columns[0].Type = value.Bool }),
		"whether it is of a key": other(func(o *rel.Rel) { o.Columns[2].Key = false }),
		"the columns' order":     other(func(o *rel.Rel) { slices.Reverse(o.Columns) }),
	} {
		if a.Same(o) || o.Same(a) {
			t.Errorf("%s: the same", name)
		}
		if !o.Same(o) {
			t.Errorf("%s: not itself", name)
		}
	}
	if !a.Same(other(func(*rel.Rel) {})) || !(rel.Rel{}).Same(rel.Rel{}) {
		t.Error("not the same")
	}
	l := several()
	for k := 0; k < len(l); k += 7 {
		for j := range l {
			if l[k].Same(l[j]) != sample.EqualRel(l[k], l[j]) {
				t.Fatalf("%v and %v", l[k], l[j])
			}
		}
	}
}

// pair is what a walk through the columns of the key hands out.
type pair struct {
	at int
	c  rel.Column
}

// walked are the first things of a walk, that is left then.
func walked(walk iter.Seq2[int, rel.Column], most int) []pair {
	var l []pair
	for k, c := range walk {
		l = append(l, pair{k, c})
		if len(l) == most {
			break
		}
	}
	return l
}

func TestP81Keys(t *testing.T) {
	for n := range 20 {
		for seed := range uint32(20) {
			r := rel.Rel{Columns: ints(n)}
			var want []pair
			for k, b := range sample.Mixed(n, seed) {
				// All of them, none, and some.
				if r.Columns[k].Key = seed == 0 || seed > 1 && b < 128; r.Columns[k].Key {
					want = append(want, pair{k, r.Columns[k]})
				}
			}
			if l := walked(r.Keys(), 100); !slices.Equal(l, want) {
				t.Errorf("%v: %v", r, l)
			}
			walk := r.Keys()
			for most := 1; most <= len(want); most++ {
				if l := walked(walk, most); !slices.Equal(l, want[:most]) {
					t.Errorf("%v, left after %d: %v", r, most, l)
				}
			}
			if l := walked(walk, 100); !slices.Equal(l, want) {
				t.Errorf("%v, walked again: %v", r, l)
			}
		}
	}
	// Also of relations that are wrong.
	wrong := rel.Rel{Columns: []rel.Column{{}, {Key: true}, {Name: "A", Type: 99, Key: true}}}
	if l := walked(wrong.Keys(), 9); !slices.Equal(l, []pair{{1, wrong.Columns[1]}, {2, wrong.Columns[2]}}) {
		t.Error(l)
	}
	if l := walked(rel.Rel{}.Keys(), 9); l != nil {
		t.Error(l)
	}
}

// encodeByWords is what P8.2 says that Encode answers.
func encodeByWords(r rel.Rel) ([]byte, api.Errno) {
	if e := wrong(r); e != api.OK {
		return nil, e
	}
	return formed(r), api.OK
}

// formed are the bytes of a relation, right or wrong.
func formed(r rel.Rel) []byte {
	b := prim.PutUint(nil, uint64(r.Oid))
	b = sample.Join(b, prim.PutUint(nil, uint64(r.Version)), []byte{byte(len(r.Name))}, []byte(r.Name), []byte{r.Identity, byte(len(r.Columns))})
	for _, c := range r.Columns {
		form := c.Type
		if c.Key {
			form += 128
		}
		b = sample.Join(b, []byte{byte(len(c.Name))}, []byte(c.Name), []byte{form})
	}
	return b
}

func TestP82Encode(t *testing.T) {
	for _, x := range []struct {
		r rel.Rel
		b []byte
	}{
		{made(rel.Nothing, rel.Column{Name: "a", Type: value.Bool}), []byte{5, 1, 1, 't', 0, 1, 1, 'a', 1}},
		{made(rel.Full, rel.Column{Name: "a", Type: value.Bytes, Key: true}), []byte{5, 1, 1, 't', 2, 1, 1, 'a', 134}},
		{rel.Rel{Ref: rel.Ref{Oid: 300, Version: math.MaxUint32}, Name: "m5", Identity: 1, Columns: []rel.Column{{Name: "k_", Type: value.Text, Key: true}, {Name: "v", Type: value.Complex}}},
			[]byte{172, 2, 255, 255, 255, 255, 15, 2, 'm', '5', 1, 2, 2, 'k', '_', 133, 1, 'v', 4}},
	} {
		if b, e := x.r.Encode(); e != api.OK || !bytes.Equal(b, x.b) {
			t.Errorf("%v: %v, error %d", x.r, b, e)
		}
	}
	for _, r := range several() {
		b, e := r.Encode()
		if want, err := encodeByWords(r); e != err || !bytes.Equal(b, want) || e != api.OK && b != nil {
			t.Errorf("%v: %v, error %d, not %v, %d", r, b, e, want, err)
		}
	}
}

// decodeByWords is what P8.2 says that Decode answers.
func decodeByWords(b []byte) (rel.Rel, api.Errno) {
	var o rel.Rel
	at := 0
	var e api.Errno
	fail := func(err api.Errno) {
		if e == api.OK {
			e = err
		}
	}
	number := func(most uint64) uint64 {
		if e != api.OK {
			return 0
		}
		r := prim.Read(b[at:])
		n := r.Uint(most)
		fail(r.Err())
		at = len(b) - r.Left()
		return n
	}
	some := func(n int) string {
		if e == api.OK && len(b)-at < n {
			fail(api.ErrShort)
		}
		if e != api.OK {
			return ""
		}
		at += n
		return string(b[at-n : at])
	}
	o.Oid, o.Version = uint32(number(1<<32-1)), uint32(number(1<<32-1))
	o.Name = some(int(number(31)))
	identity := some(1)
	n := number(16)
	for range n {
		name := some(int(number(31)))
		if form := some(1); e == api.OK {
			o.Columns = append(o.Columns, rel.Column{Name: name, Type: form[0] % 128, Key: form[0] >= 128})
		}
	}
	if at < len(b) {
		fail(api.ErrLong)
	}
	if e != api.OK {
		return rel.Rel{}, e
	}
	o.Identity = identity[0]
	if e := wrong(o); e != api.OK {
		return rel.Rel{}, e
	}
	return o, api.OK
}

// decoded holds Decode against the words, and what it answers against Encode.
func decoded(t *testing.T, b []byte) {
	t.Helper()
	r, e := rel.Decode(b)
	want, err := decodeByWords(b)
	if e != err || !sample.EqualRel(r, want) || e != api.OK && r.Columns != nil {
		t.Fatalf("%v: %v, error %d, not %v, %d", b, r, e, want, err)
	}
	if e != api.OK {
		return
	}
	if back, e := r.Encode(); e != api.OK || !bytes.Equal(back, b) {
		t.Fatalf("%v: encoded as %v, error %d", b, back, e)
	}
}

func TestP82DecodeWrong(t *testing.T) {
	n31, n32 := strings.Repeat("n", 31), strings.Repeat("n", 32)
	for _, x := range []struct {
		name, b string
		e       api.Errno
	}{
		{"no byte", "", api.ErrShort},
		{"half an oid", "\x80", api.ErrShort},
		{"an oid longer than it is", "\x85\x00\x01", api.ErrOver},
		{"an oid of 2^32", "\x80\x80\x80\x80\x10\x01\x01t\x00\x01\x01a\x02", api.ErrRange},
		{"an oid of 2^64 - 1", "\xff\xff\xff\xff\xff\xff\xff\xff\xff\x01", api.ErrRange},
		{"an oid of 2^32 - 1", "\xff\xff\xff\xff\x0f\x01\x01t\x00\x01\x01a\x02", api.OK},
		{"an oid of 0", "\x00\x01\x01t\x00\x01\x01a\x02", api.ErrRange},
		{"no version", "\x05", api.ErrShort},
		{"a version of 2^32", "\x05\x80\x80\x80\x80\x10\x01t\x00\x01\x01a\x02", api.ErrRange},
		{"a version of 2^32 - 1", "\x05\xff\xff\xff\xff\x0f\x01t\x00\x01\x01a\x02", api.OK},
		{"a version of 0", "\x05\x00\x01t\x00\x01\x01a\x02", api.ErrRange},
		{"no name", "\x05\x01", api.ErrShort},
		{"a name without its bytes", "\x05\x01\x01", api.ErrShort},
		{"a name of no byte", "\x05\x01\x00\x00\x01\x01a\x02", api.ErrForm},
		{"a name of 31 bytes", "\x05\x01\x1f" + n31 + "\x00\x01\x01a\x02", api.OK},
		{"a name of 32 bytes", "\x05\x01\x20" + n32 + "\x00\x01\x01a\x02", api.ErrRange},
		{"a name of 32 bytes that are not there", "\x05\x01\x20", api.ErrRange},
		{"a name of other bytes", "\x05\x01\x01T\x00\x01\x01a\x02", api.ErrForm},
		{"no identity", "\x05\x01\x01t", api.ErrShort},
		{"an identity of 3", "\x05\x01\x01t\x03\x01\x01a\x02", api.ErrKind},
		{"an identity of 129", "\x05\x01\x01t\x81\x01\x01a\x82", api.ErrKind},
		{"no number of columns", "\x05\x01\x01t\x00", api.ErrShort},
		{"no columns", "\x05\x01\x01t\x00\x00", api.ErrCount},
		{"17 columns", "\x05\x01\x01t\x00\x11" + strings.Repeat("\x01a\x02", 17), api.ErrRange},
		{"17 columns that are not there", "\x05\x01\x01t\x00\x11", api.ErrRange},
		{"a number of columns longer than it is", "\x05\x01\x01t\x00\x81\x00\x01a\x02", api.ErrOver},
		{"a column that is not there", "\x05\x01\x01t\x00\x01", api.ErrShort},
		{"a column's name that is not there", "\x05\x01\x01t\x00\x01\x01", api.ErrShort},
		{"a column's type that is not there", "\x05\x01\x01t\x00\x01\x01a", api.ErrShort},
		{"a second column that is not there", "\x05\x01\x01t\x00\x02\x01a\x02", api.ErrShort},
		{"a column's name of no byte", "\x05\x01\x01t\x00\x01\x00\x02", api.ErrForm},
		{"a column's name of 31 bytes", "\x05\x01\x01t\x00\x01\x1f" + n31 + "\x02", api.OK},
		{"a column's name of 32 bytes", "\x05\x01\x01t\x00\x01\x20" + n32 + "\x02", api.ErrRange},
		{"a column of the type 0", "\x05\x01\x01t\x00\x01\x01a\x00", api.ErrType},
		{"a column of the type 7", "\x05\x01\x01t\x00\x01\x01a\x07", api.ErrType},
		{"a column of the type 0, of the key", "\x05\x01\x01t\x01\x01\x01a\x80", api.ErrType},
		{"a column of the type 127, of the key", "\x05\x01\x01t\x01\x01\x01a\xff", api.ErrType},
		{"one name twice", "\x05\x01\x01t\x00\x02\x01a\x02\x01a\x03", api.ErrExists},
		{"identity key without a key", "\x05\x01\x01t\x01\x01\x01a\x02", api.ErrKey},
		{"identity nothing with a key", "\x05\x01\x01t\x00\x01\x01a\x82", api.OK},
		{"a byte behind", "\x05\x01\x01t\x00\x01\x01a\x02\x00", api.ErrLong},
		{"the bytes of one column more", "\x05\x01\x01t\x00\x01\x01a\x02\x01b\x02", api.ErrLong},

		{"short ahead of an oid of 0", "\x00\x01\x01t\x00\x01\x01a", api.ErrShort},
		{"short ahead of a name's bytes", "\x05\x01\x01T\x00\x01\x01a", api.ErrShort},
		{"short ahead of the identity", "\x05\x01\x01t\x03\x01\x01a", api.ErrShort},
		{"range of the count ahead of the identity", "\x05\x01\x01t\x03\x11", api.ErrRange},
		{"long ahead of an oid of 0", "\x00\x01\x01t\x00\x01\x01a\x02\x00", api.ErrLong},
		{"long ahead of no columns", "\x05\x01\x01t\x00\x00\x00", api.ErrLong},
		{"long ahead of the key", "\x05\x01\x01t\x01\x01\x01a\x02\x00", api.ErrLong},
		{"long ahead of a type", "\x05\x01\x01t\x00\x01\x01a\x09\x00", api.ErrLong},
		{"an oid of 0 ahead of the name", "\x00\x01\x01T\x03\x00", api.ErrRange},
		{"the oid ahead of the version", "\x80\x80\x80\x80\x10\x81\x00", api.ErrRange},
		{"the version ahead of the name", "\x05\x81\x00\x20", api.ErrOver},
	} {
		r, e := rel.Decode([]byte(x.b))
		if e != x.e || e != api.OK && (!sample.EqualRel(r, rel.Rel{}) || r.Columns != nil) {
			t.Errorf("%s: %v, error %d, not %d", x.name, r, e, x.e)
		}
		decoded(t, []byte(x.b))
	}
}

func TestP83EncodedAndDecoded(t *testing.T) {
	n := 0
	for _, r := range several() {
		b, e := r.Encode()
		if e != api.OK {
			continue
		}
		n++
		if o, e := rel.Decode(b); e != api.OK || !sample.EqualRel(o, r) || !o.Same(r) {
			t.Fatalf("%v: %v, error %d", r, o, e)
		}
	}
	if n < 100 {
		t.Errorf("just %d relations", n)
	}
}

func TestP83FromNoOtherBytes(t *testing.T) {
	for k, r := range several() {
		// Of those that are wrong, too.
		b := formed(r)
		decoded(t, b)
		decoded(t, append(bytes.Clone(b), 0))
		for n := range b {
			decoded(t, b[:n])
			if k%5 != 0 {
				continue
			}
			for _, turn := range []byte{1, 2, 4, 32, 127, 128, 255} {
				b[n] ^= turn
				decoded(t, b)
				b[n] ^= turn
			}
		}
	}
}

func TestR1AnyBytes(t *testing.T) {
	for seed := range uint32(3000) {
		b := sample.Mixed(int(seed%70), seed)
		decoded(t, b)
		for k := range b {
			b[k] %= 32
		}
		decoded(t, b)
	}
}

func TestR3NoColumns(t *testing.T) {
	a, b := made(rel.Nothing), made(rel.Nothing)
	b.Columns = []rel.Column{}
	if !a.Same(b) || !b.Same(a) || a.Right() != b.Right() || walked(b.Keys(), 1) != nil {
		t.Error("none and empty are not one")
	}
}

func TestR4Answers(t *testing.T) {
	b := []byte{5, 1, 1, 't', 1, 2, 1, 'a', 130, 2, 'b', 'c', 5}
	kept := bytes.Clone(b)
	r, _ := rel.Decode(b)
	o, _ := rel.Decode(b)
	want, _ := rel.Decode(kept)
	if !bytes.Equal(b, kept) {
		t.Error("what is handed in is changed")
	}
	clear(b)
	r.Columns[0] = rel.Column{Name: "z"}
	_ = append(r.Columns, rel.Column{Name: "z"})
	if !o.Same(want) {
		t.Errorf("%v", o)
	}
	one, _ := o.Encode()
	two, _ := o.Encode()
	clear(one)
	_ = append(one, 9)
	if !bytes.Equal(two, kept) || !o.Same(want) {
		t.Errorf("%v of %v", two, o)
	}
}

func TestR4KeysKeepNothing(t *testing.T) {
	r := made(rel.Key, rel.Column{Name: "a", Type: value.Int, Key: true}, rel.Column{Name: "b", Type: value.Int})
	walk := r.Keys()
	r.Columns[0].Key, r.Columns[1].Key = false, true
	if l := walked(walk, 9); !slices.Equal(l, []pair{{0, rel.Column{Name: "a", Type: value.Int, Key: true}}}) {
		t.Errorf("%v, though its columns were changed behind the call", l)
	}
}

func TestR4NothingIsChanged(t *testing.T) {
	for _, r := range several() {
		kept := r
		kept.Columns = slices.Clone(r.Columns)
		room := append(slices.Clone(r.Columns), rel.Column{Name: "room"})
		r.Columns = room[:len(r.Columns)]
		r.Right()
		r.Same(kept)
		r.Encode()
		walked(r.Keys(), 100)
		if !sample.EqualRel(r, kept) || room[len(room)-1].Name != "room" {
			t.Fatalf("%v, not %v", r, kept)
		}
	}
}

func TestR6Again(t *testing.T) {
	r := made(rel.Key, rel.Column{Name: "a", Type: value.Int, Key: true})
	for range 3 {
		made(3).Encode()
		rel.Decode([]byte{5})
		if b, e := r.Encode(); e != api.OK || len(b) != 9 {
			t.Errorf("%v, error %d", b, e)
		}
	}
}

func TestExample(t *testing.T) {
	r := rel.Rel{Ref: rel.Ref{Oid: 5, Version: 1}, Name: "t", Identity: rel.Key, Columns: []rel.Column{{Name: "a", Type: value.Int, Key: true}}}
	want := []byte{5, 1, 1, 116, 1, 1, 1, 97, 130}
	if b, e := r.Encode(); e != api.OK || !bytes.Equal(b, want) {
		t.Errorf("%v, error %d", b, e)
	}
	if o, e := rel.Decode(want); e != api.OK || !sample.EqualRel(o, r) {
		t.Errorf("%v, error %d", o, e)
	}
}
