package catalog_test

import (
	"cmp"
	"math"
	"slices"
	"strconv"
	"testing"

	"lacuna/api"
	"lacuna/catalog"
	"lacuna/rel"
	"lacuna/sample"
	"lacuna/value"
)

// made is a relation of a ref, that tells it by its other fields, too.
func made(oid, version uint32) rel.Rel {
	r := rel.Rel{Ref: rel.Ref{Oid: oid, Version: version}, Name: "t" + strconv.Itoa(int(oid)), Identity: uint8(version % 3)}
	for k := range 1 + (oid+version)%16 {
		r.Columns = append(r.Columns, rel.Column{Name: "c" + strconv.Itoa(int(k)), Type: value.Bool + uint8((oid+k)%6), Key: k%3 == 0})
	}
	return r
}

// broken is a relation of a ref that is wrong.
func broken(oid, version uint32) rel.Rel {
	r := made(oid, version)
	r.Columns[0].Type = 7
	return r
}

// several are n relations, of oids with one version and with more, rising.
func several(n int) []rel.Rel {
	var l []rel.Rel
	for oid := uint32(1); len(l) < n; oid++ {
		for version := uint32(1); version <= 1+oid%4 && len(l) < n; version++ {
			l = append(l, made(3*oid, 2*version))
		}
	}
	return l
}

// orders are the same relations: rising, falling, and mixed.
func orders(rising []rel.Rel) [][]rel.Rel {
	falling := slices.Clone(rising)
	slices.Reverse(falling)
	l := [][]rel.Rel{rising, falling}
	for seed := range uint32(4) {
		mixed := slices.Clone(rising)
		for k, b := range sample.Mixed(len(mixed), seed) {
			at := int(b) % (k + 1)
			mixed[k], mixed[at] = mixed[at], mixed[k]
		}
		l = append(l, mixed)
	}
	return l
}

// filled is a catalog of relations that all can be added.
func filled(t *testing.T, l ...rel.Rel) *catalog.Catalog {
	t.Helper()
	c, n, e := catalog.Of(l...)
	if c == nil || n != len(l) || e != api.OK {
		t.Fatalf("of %d relations: %d, error %d", len(l), n, e)
	}
	return c
}

// walked are the first things of a walk, that is left then.
func walked(t *testing.T, c *catalog.Catalog, most int) []rel.Rel {
	t.Helper()
	var l []rel.Rel
	for at, r := range c.All() {
		if at != r.Ref {
			t.Fatalf("the ref %v with the relation %v", at, r)
		}
		l = append(l, r)
		if len(l) == most {
			break
		}
	}
	return l
}

// holds holds a catalog against the relations that it must have, in any order.
func holds(t *testing.T, c *catalog.Catalog, l []rel.Rel) {
	t.Helper()
	if c.Len() != len(l) {
		t.Fatalf("%d relations, not %d", c.Len(), len(l))
	}
	l = slices.Clone(l)
	slices.SortFunc(l, func(r, o rel.Rel) int {
		return cmp.Or(cmp.Compare(r.Oid, o.Oid), cmp.Compare(r.Version, o.Version))
	})
	if all := walked(t, c, math.MaxInt); !slices.EqualFunc(all, l, sample.EqualRel) {
		t.Fatalf("%v, not %v", all, l)
	}
	have := map[rel.Ref]rel.Rel{}
	last := map[uint32]rel.Rel{}
	for _, r := range l {
		have[r.Ref], last[r.Oid] = r, r
	}
	// Those that are there, those beside them, and far ones.
	refs := []rel.Ref{{}, {Oid: 1, Version: math.MaxUint32}, {Oid: math.MaxUint32, Version: 1}, {Oid: math.MaxUint32, Version: math.MaxUint32}}
	for _, r := range l {
		for d := range uint32(3) {
			refs = append(refs, rel.Ref{Oid: r.Oid + d - 1, Version: r.Version}, rel.Ref{Oid: r.Oid, Version: r.Version + d - 1}, rel.Ref{Oid: r.Version, Version: r.Oid})
		}
	}
	for _, at := range refs {
		want, there := have[at]
		if r, ok := c.Get(at); ok != there || !sample.EqualRel(r, want) {
			t.Fatalf("%v: %v, %v, not %v, %v", at, r, ok, want, there)
		}
		want, there = last[at.Oid]
		if r, ok := c.Last(at.Oid); ok != there || !sample.EqualRel(r, want) {
			t.Fatalf("the last one of %d: %v, %v, not %v, %v", at.Oid, r, ok, want, there)
		}
	}
}

func TestP91New(t *testing.T) {
	holds(t, catalog.New(), nil)
	// Each is another one.
	c := catalog.New()
	c.Add(made(1, 1))
	holds(t, catalog.New(), nil)
}

func TestP91Add(t *testing.T) {
	for _, l := range orders(several(64)) {
		c := catalog.New()
		for k, r := range l {
			if e := c.Add(r); e != api.OK {
				t.Fatalf("%v: error %d", r, e)
			}
			holds(t, c, l[:k+1])
		}
	}
}

func TestP91AddWrong(t *testing.T) {
	all := several(64)
	with := func(change func(*rel.Rel)) rel.Rel {
		r := made(4, 1)
		change(&r)
		return r
	}
	for _, x := range []struct {
		name string
		had  []rel.Rel
		r    rel.Rel
		e    api.Errno
	}{
		{"nothing to none", nil, rel.Rel{}, api.ErrRange},
		{"an oid of 0", all[:3], with(func(r *rel.Rel) { r.Oid = 0 }), api.ErrRange},
		{"a version of 0", all[:3], with(func(r *rel.Rel) { r.Version = 0 }), api.ErrRange},
		{"no name", all[:3], with(func(r *rel.Rel) { r.Name = "" }), api.ErrForm},
		{"the identity 3", all[:3], with(func(r *rel.Rel) { r.Identity = 3 }), api.ErrKind},
		{"no columns", all[:3], with(func(r *rel.Rel) { r.Columns = nil }), api.ErrCount},
		{"17 columns", all[:3], with(func(r *rel.Rel) { r.Columns = make([]rel.Column, 17) }), api.ErrCount},
		{"one name twice", all[:3], with(func(r *rel.Rel) { r.Columns[1].Name = r.Columns[0].Name }), api.ErrExists},
		{"a column of no type", all[:3], with(func(r *rel.Rel) { r.Columns[0].Type = 0 }), api.ErrType},
		{"the identity key without a key", all[:3], with(func(r *rel.Rel) { r.Identity, r.Columns[0].Key, r.Columns[3].Key = rel.Key, false, false }), api.ErrKey},
		{"the only one again", all[:1], all[0], api.ErrExists},
		{"the first one again", all[:5], all[0], api.ErrExists},
		{"a middle one again", all[:5], all[2], api.ErrExists},
		{"the last one again", all[:5], all[4], api.ErrExists},
		{"another one of a ref that is there", all[:5], rel.Rel{Ref: all[2].Ref, Name: "other", Columns: made(1, 1).Columns}, api.ErrExists},
		{"a 65th one", all, made(1000, 1), api.ErrFull},
		{"a 65th one ahead of all", all, made(1, 1), api.ErrFull},
		{"another version as the 65th one", all, made(all[0].Oid, 99), api.ErrFull},

		{"wrong ahead of there", all[:5], broken(all[2].Oid, all[2].Version), api.ErrType},
		{"wrong ahead of full", all, broken(1000, 1), api.ErrType},
		{"there ahead of full", all, all[63], api.ErrExists},
		{"wrong ahead of there and full", all, broken(all[0].Oid, all[0].Version), api.ErrType},
	} {
		c := filled(t, x.had...)
		for range 2 {
			if e := c.Add(x.r); e != x.e {
				t.Errorf("%s: %d, not %d", x.name, e, x.e)
			}
			holds(t, c, x.had)
		}
	}
}

func TestP91AnotherVersion(t *testing.T) {
	c := filled(t, made(5, 4))
	had := []rel.Rel{made(5, 4)}
	for _, r := range []rel.Rel{made(5, 7), made(5, 1), made(5, math.MaxUint32), made(5, 5), made(4, 5), made(math.MaxUint32, 5), made(7, 5)} {
		if e := c.Add(r); e != api.OK {
			t.Errorf("%v: error %d", r, e)
		}
		had = append(had, r)
		holds(t, c, had)
	}
	// The same relation but for its ref is another one.
	r := made(5, 4)
	r.Version = 6
	if e := c.Add(r); e != api.OK {
		t.Errorf("error %d", e)
	}
	holds(t, c, append(had, r))
}

func TestP91Of(t *testing.T) {
	for _, n := range []int{0, 1, 2, 10, 63, 64} {
		for _, l := range orders(several(n)) {
			holds(t, filled(t, l...), l)
		}
	}
}

func TestP91OfWrong(t *testing.T) {
	all := several(64)
	put := func(l []rel.Rel, at int, r rel.Rel) []rel.Rel {
		l = slices.Clone(l)
		l[at] = r
		return l
	}
	ten := all[:10]
	wrong := broken(1, 1)
	for _, x := range []struct {
		name string
		l    []rel.Rel
		at   int
		e    api.Errno
	}{
		{"the only one", []rel.Rel{wrong}, 0, api.ErrType},
		{"the first one", put(ten, 0, wrong), 0, api.ErrType},
		{"a middle one", put(ten, 5, wrong), 5, api.ErrType},
		{"the last one", put(ten, 9, wrong), 9, api.ErrType},
		{"two", put(put(ten, 7, wrong), 4, rel.Rel{}), 4, api.ErrRange},
		{"the second one again", put(ten, 1, ten[0]), 1, api.ErrExists},
		{"a middle one again", put(ten, 5, ten[3]), 5, api.ErrExists},
		{"the last one again", put(ten, 9, ten[0]), 9, api.ErrExists},
		{"one again ahead of a wrong one", put(put(ten, 8, wrong), 6, ten[0]), 6, api.ErrExists},
		{"a wrong one ahead of one again", put(put(ten, 6, wrong), 8, ten[0]), 6, api.ErrType},
		{"65", append(slices.Clone(all), made(1000, 1)), 64, api.ErrFull},
		{"the 65th one again", append(slices.Clone(all), all[3]), 64, api.ErrExists},
		{"the 65th one wrong", append(slices.Clone(all), wrong), 64, api.ErrType},
		{"66, the last one wrong", append(slices.Clone(all), made(1000, 1), wrong), 64, api.ErrFull},
	} {
		if c, n, e := catalog.Of(x.l...); c != nil || n != x.at || e != x.e {
			t.Errorf("%s: %v, %d, error %d, not %d, %d", x.name, c, n, e, x.at, x.e)
		}
	}
}

func TestP92Get(t *testing.T) {
	c := filled(t, made(2, 3), made(2, 5), made(4, 1))
	for _, at := range []rel.Ref{{Oid: 2, Version: 3}, {Oid: 2, Version: 5}, {Oid: 4, Version: 1}} {
		if r, ok := c.Get(at); !ok || !sample.EqualRel(r, made(at.Oid, at.Version)) {
			t.Errorf("%v: %v, %v", at, r, ok)
		}
	}
	for _, at := range []rel.Ref{{}, {Oid: 2}, {Oid: 2, Version: 2}, {Oid: 2, Version: 4}, {Oid: 2, Version: 6}, {Oid: 1, Version: 3}, {Oid: 3, Version: 3}, {Oid: 3, Version: 2}, {Oid: 4, Version: 2}, {Oid: 5, Version: 1}, {Oid: math.MaxUint32, Version: math.MaxUint32}} {
		if r, ok := c.Get(at); ok || !sample.EqualRel(r, rel.Rel{}) || r.Columns != nil {
			t.Errorf("%v: %v, %v", at, r, ok)
		}
	}
}

func TestP92Last(t *testing.T) {
	c := filled(t, made(2, 3), made(4, 9), made(4, 1), made(4, 5), made(6, math.MaxUint32), made(6, 1), made(math.MaxUint32, 7))
	for oid, version := range map[uint32]uint32{2: 3, 4: 9, 6: math.MaxUint32, math.MaxUint32: 7} {
		if r, ok := c.Last(oid); !ok || !sample.EqualRel(r, made(oid, version)) {
			t.Errorf("%d: %v, %v", oid, r, ok)
		}
	}
	for _, oid := range []uint32{0, 1, 3, 5, 7, 9, math.MaxUint32 - 1} {
		if r, ok := c.Last(oid); ok || !sample.EqualRel(r, rel.Rel{}) || r.Columns != nil {
			t.Errorf("%d: %v, %v", oid, r, ok)
		}
	}
}

func TestP92AllLeft(t *testing.T) {
	all := several(12)
	for _, l := range orders(all) {
		c := filled(t, l...)
		walk := c.All()
		for most := 1; most <= len(all); most++ {
			if w := walked(t, c, most); !slices.EqualFunc(w, all[:most], sample.EqualRel) {
				t.Errorf("left after %d: %v", most, w)
			}
			// One walk may be gone through again, from its beginning.
			n := 0
			for at := range walk {
				if at != all[n].Ref {
					t.Errorf("%v, not %v", at, all[n].Ref)
				}
				if n++; n == most {
					break
				}
			}
		}
		holds(t, c, l)
	}
}

// refs are those of some of a list's relations.
func refs(l []rel.Rel, at ...int) []rel.Ref {
	var o []rel.Ref
	for _, k := range at {
		o = append(o, l[k].Ref)
	}
	return o
}

func TestP92Only(t *testing.T) {
	all := several(20)
	for _, x := range []struct{ at, has []int }{
		{nil, nil},
		{[]int{0}, []int{0}},
		{[]int{19}, []int{19}},
		{[]int{7, 7}, []int{7}},
		{[]int{7, 3, 7, 3, 3}, []int{3, 7}},
		{[]int{2, 9, 15}, []int{2, 9, 15}},
		{[]int{15, 9, 2}, []int{2, 9, 15}},
		{[]int{9, 15, 2, 19, 0}, []int{0, 2, 9, 15, 19}},
		{[]int{0, 1, 2, 3, 4, 5, 6, 7, 8, 9, 10, 11, 12, 13, 14, 15, 16, 17, 18, 19}, []int{0, 1, 2, 3, 4, 5, 6, 7, 8, 9, 10, 11, 12, 13, 14, 15, 16, 17, 18, 19}},
	} {
		c := filled(t, all...)
		o, e := c.Only(refs(all, x.at...)...)
		if o == nil || e != api.OK {
			t.Fatalf("%v: error %d", x.at, e)
		}
		var want []rel.Rel
		for _, k := range x.has {
			want = append(want, all[k])
		}
		holds(t, o, want)
		// It is another one: what is added to one is not in the other one.
		if o.Add(made(1000, 1)) != api.OK || c.Add(made(2000, 1)) != api.OK {
			t.Fatal("not added")
		}
		holds(t, o, append(want, made(1000, 1)))
		holds(t, c, append(slices.Clone(all), made(2000, 1)))
	}
	// More refs than a catalog may have relations.
	c := filled(t, several(64)...)
	if o, e := c.Only(slices.Concat(refs(several(64), 5, 6), slices.Repeat(refs(several(64), 63, 0), 50))...); e != api.OK || o.Len() != 4 {
		t.Errorf("error %d", e)
	}
}

func TestP92OnlyMissing(t *testing.T) {
	all := several(8)
	c := filled(t, all...)
	there := refs(all, 0, 5, 7)
	for _, gone := range []rel.Ref{{}, {Oid: all[0].Oid}, {Oid: all[5].Oid, Version: all[5].Version + 1}, {Oid: 1000, Version: 1}, {Oid: 1, Version: all[0].Version}} {
		for _, l := range [][]rel.Ref{{gone}, {gone, gone}, slices.Insert(slices.Clone(there), 0, gone), slices.Insert(slices.Clone(there), 2, gone), append(slices.Clone(there), gone)} {
			if o, e := c.Only(l...); o != nil || e != api.ErrMissing {
				t.Errorf("%v: %v, error %d", l, o, e)
			}
		}
	}
	if o, e := catalog.New().Only(there...); o != nil || e != api.ErrMissing {
		t.Errorf("of none: %v, error %d", o, e)
	}
	if o, e := catalog.New().Only(); o == nil || e != api.OK || o.Len() != 0 {
		t.Errorf("none of none: %v, error %d", o, e)
	}
	holds(t, c, all)
}

func TestP92Same(t *testing.T) {
	for _, n := range []int{0, 1, 2, 20, 64} {
		l := orders(several(n))
		for _, a := range l {
			for _, b := range l {
				if !filled(t, a...).Same(filled(t, b...)) {
					t.Errorf("%v and %v: not the same", a, b)
				}
			}
		}
		c := filled(t, l[0]...)
		if !c.Same(c) {
			t.Error("not itself")
		}
		// One has one more, ahead of all, or behind them.
		if n < 64 {
			for _, r := range []rel.Rel{made(1, 1), made(1000, 1)} {
				o := filled(t, append(slices.Clone(l[2]), r)...)
				if c.Same(o) || o.Same(c) {
					t.Errorf("one more of %d: the same", n)
				}
			}
		}
	}
}

func TestP92NotSame(t *testing.T) {
	all := several(9)
	c := filled(t, all...)
	for _, at := range []int{0, 4, 8} {
		for name, change := range map[string]func(*rel.Rel){
			"the oid":                func(r *rel.Rel) { r.Oid++ },
			"the version":            func(r *rel.Rel) { r.Version++ },
			"the name":               func(r *rel.Rel) { r.Name += "x" },
			"the identity":           func(r *rel.Rel) { r.Identity = (r.Identity + 1) % 3 },
			"a column more":          func(r *rel.Rel) { r.Columns = append(r.Columns, rel.Column{Name: "more", Type: value.Int}) },
			"a column less":          func(r *rel.Rel) { r.Columns = r.Columns[:len(r.Columns)-1] },
			"a column's name":        func(r *rel.Rel) { r.Columns[len(r.Columns)-1].Name = "other" },
			"a column's type":        func(r *rel.Rel) { r.Columns[0].Type = value.Bool + r.Columns[0].Type%6 },
			"whether it is of a key": func(r *rel.Rel) { r.Columns[1].Key = !r.Columns[1].Key },
			"the columns' order":     func(r *rel.Rel) { slices.Reverse(r.Columns) },
		} {
			l := slices.Clone(all)
			l[at].Columns = slices.Clone(l[at].Columns)
			change(&l[at])
			o := filled(t, l...)
			if c.Same(o) || o.Same(c) {
				t.Errorf("%s of the relation %d: the same", name, at)
			}
		}
		// One has one less.
		o := filled(t, slices.Delete(slices.Clone(all), at, at+1)...)
		if c.Same(o) || o.Same(c) {
			t.Errorf("without the relation %d: the same", at)
		}
	}
	if none := catalog.New(); c.Same(none) || none.Same(c) || !none.Same(catalog.New()) {
		t.Error("none")
	}
}

func TestP93AsItWas(t *testing.T) {
	// Of relations as great and as small as can be.
	wide := rel.Rel{Ref: rel.Ref{Oid: math.MaxUint32, Version: math.MaxUint32}, Name: "abcdefghijklmnopqrstuvwxyz_0189", Identity: rel.Key}
	for k := range 16 {
		wide.Columns = append(wide.Columns, rel.Column{Name: "c" + strconv.Itoa(k), Type: value.Bool + uint8(k%6), Key: k == 15})
	}
	small := rel.Rel{Ref: rel.Ref{Oid: 1, Version: 1}, Name: "z", Columns: []rel.Column{{Name: "z", Type: value.Bytes}}}
	l := append(several(40), wide, small)
	for _, o := range orders(l) {
		c := catalog.New()
		for _, r := range o {
			c.Add(r)
			// In between what can't be added.
			c.Add(r)
			c.Add(broken(1, 2))
		}
		holds(t, c, l)
	}
}

func TestR2ZeroBesideErrors(t *testing.T) {
	c, n, e := catalog.Of(rel.Rel{})
	if c != nil || n != 0 || e != api.ErrRange {
		t.Errorf("%v, %d, error %d", c, n, e)
	}
	if o, e := catalog.New().Only(rel.Ref{Oid: 1, Version: 1}); o != nil || e != api.ErrMissing {
		t.Errorf("%v, error %d", o, e)
	}
}

func TestR4HandedIn(t *testing.T) {
	want := several(5)
	l := several(5)
	more := made(1000, 1)
	c := filled(t, l...)
	c.Add(more)
	if !slices.EqualFunc(l, want, sample.EqualRel) || !sample.EqualRel(more, made(1000, 1)) {
		t.Fatal("what is handed in is changed")
	}
	at := refs(l, 4, 1, 1, 0)
	o, _ := c.Only(at...)
	if !slices.Equal(at, refs(want, 4, 1, 1, 0)) {
		t.Error("refs that are handed in are changed")
	}
	for k := range l {
		l[k].Columns[0] = rel.Column{Name: "gone"}
		l[k] = rel.Rel{}
	}
	more.Columns[0].Name = "gone"
	clear(at)
	holds(t, c, append(slices.Clone(want), made(1000, 1)))
	holds(t, o, []rel.Rel{want[0], want[1], want[4]})
}

func TestR4HandedOut(t *testing.T) {
	want := several(6)
	c := filled(t, want...)
	o, _ := c.Only(refs(want, 0, 3)...)
	spoil := func(r rel.Rel) {
		r.Columns[0] = rel.Column{Name: "gone"}
		_ = append(r.Columns, rel.Column{Name: "gone"})
	}
	got, _ := c.Get(want[3].Ref)
	again, _ := c.Get(want[3].Ref)
	spoil(got)
	last, _ := c.Last(want[0].Oid)
	spoil(last)
	walk := c.All()
	for range 2 {
		for at, r := range walk {
			if x, _ := c.Get(at); !sample.EqualRel(r, x) {
				t.Errorf("%v, though what another walk handed out was changed", r)
			}
			spoil(r)
		}
	}
	for _, r := range o.All() {
		spoil(r)
	}
	if !sample.EqualRel(again, want[3]) {
		t.Errorf("%v: two answers share memory", again)
	}
	holds(t, c, several(6))
	holds(t, o, []rel.Rel{several(6)[0], several(6)[3]})
}

func TestR6WalkOfThatTime(t *testing.T) {
	all := several(24)
	for n := 1; n <= 20; n++ {
		had := all[2 : 2+n]
		c := filled(t, had...)
		walk := c.All()
		c.Add(all[0])
		c.Add(all[22])
		var l []rel.Rel
		for _, r := range walk {
			// What is added while one walks is not in that walk, be it ahead or behind.
			c.Add(all[1])
			c.Add(all[23])
			l = append(l, r)
		}
		if !slices.EqualFunc(l, had, sample.EqualRel) {
			t.Errorf("%v of %v, though the walk was asked for ahead of what was added", l, had)
		}
		holds(t, c, slices.Concat(all[:2+n], all[22:]))
	}
}

func TestR6Again(t *testing.T) {
	for range 3 {
		catalog.Of(broken(1, 1), made(1, 1))
		other := filled(t, several(64)...)
		other.Add(made(1000, 1))
		c := filled(t, made(2, 1), made(1, 1))
		c.Only(rel.Ref{})
		c.Get(rel.Ref{})
		holds(t, c, []rel.Rel{made(1, 1), made(2, 1)})
	}
}

func TestExample(t *testing.T) {
	c := filled(t, made(5, 2), made(5, 1))
	var l []uint32
	for at := range c.All() {
		l = append(l, at.Version)
	}
	if r, ok := c.Last(5); !slices.Equal(l, []uint32{1, 2}) || !ok || r.Version != 2 {
		t.Errorf("%v, and %v, %v", l, r, ok)
	}
}
