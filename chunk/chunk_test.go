package chunk_test

import (
	"math"
	"slices"
	"strings"
	"testing"

	"lacuna/api"
	"lacuna/chunk"
	"lacuna/sample"
)

// text has n bytes, that tell where in it they stand; others for another seed.
func text(n int, seed uint32) string { return string(sample.Mixed(n, seed)) }

// lengths are those at which the count of pieces changes, and some beside them.
var lengths = []int{0, 1, 2, 254, 255, 256, 257, 258, 300, 511, 512, 513, 767, 768, 769, 1024, 1025, 1791, 1792, 1793, 2047, 2048}

// piecesByWords are a text's, by the words of the chapter.
func piecesByWords(s string) []string {
	var l []string
	for len(s) > 256 {
		l, s = append(l, s[:256]), s[256:]
	}
	if s != "" {
		l = append(l, s)
	}
	return l
}

// splitByWords are texts in pieces, likewise.
func splitByWords(texts ...string) []string {
	var l []string
	for _, s := range texts {
		l = append(l, piecesByWords(s)...)
	}
	return l
}

// joinByWords is what P11.2 says that Join answers.
func joinByWords(pieces []string, sizes ...int) ([]string, api.Errno) {
	var texts []string
	for _, n := range sizes {
		if n < 0 || n > 2048 {
			return nil, api.ErrRange
		}
		texts = append(texts, strings.Repeat("x", n))
	}
	asSplit := func(p, o string) bool { return len(p) == len(o) }
	if !slices.EqualFunc(pieces, splitByWords(texts...), asSplit) {
		return nil, api.ErrSplit
	}
	all := strings.Join(pieces, "")
	for k, n := range sizes {
		texts[k], all = all[:n], all[n:]
	}
	return texts, api.OK
}

// begun is a piece, and where it begins.
type begun struct {
	at    int
	piece string
}

// walked are the first pieces of a walk, at most so many.
func walked(t *testing.T, s string, most int) []begun {
	t.Helper()
	var l []begun
	for at, piece := range chunk.Walk(s) {
		l = append(l, begun{at, piece})
		if len(l) == most {
			break
		}
		if len(l) > most {
			t.Fatal("a walk goes on that was left")
		}
	}
	return l
}

func TestP111Walk(t *testing.T) {
	a, b, c := text(256, 1), text(256, 2), text(256, 3)
	for _, x := range []struct {
		name string
		s    string
		l    []begun
	}{
		{"an empty one", "", nil},
		{"1 byte", "x", []begun{{0, "x"}}},
		{"255 bytes", a[:255], []begun{{0, a[:255]}}},
		{"256 bytes", a, []begun{{0, a}}},
		{"257 bytes", a + "x", []begun{{0, a}, {256, "x"}}},
		{"300 bytes", a + b[:44], []begun{{0, a}, {256, b[:44]}}},
		{"511 bytes", a + b[:255], []begun{{0, a}, {256, b[:255]}}},
		{"512 bytes", a + b, []begun{{0, a}, {256, b}}},
		{"513 bytes", a + b + "\x00", []begun{{0, a}, {256, b}, {512, "\x00"}}},
		{"768 bytes", a + b + c, []begun{{0, a}, {256, b}, {512, c}}},
		{"2048 bytes", a + b + c + a + a + b + b + c, []begun{{0, a}, {256, b}, {512, c}, {768, a}, {1024, a}, {1280, b}, {1536, b}, {1792, c}}},
	} {
		if l := walked(t, x.s, math.MaxInt); !slices.Equal(l, x.l) {
			t.Errorf("%s: %v", x.name, l)
		}
	}
}

func TestP111WalkByItsWords(t *testing.T) {
	for n := range 2200 {
		s := text(n, uint32(n))
		l := walked(t, s, math.MaxInt)
		whole := ""
		for k, x := range l {
			if x.at != 256*k || x.piece == "" {
				t.Fatalf("%d bytes: a piece of %d begins at %d", n, len(x.piece), x.at)
			}
			whole += x.piece
		}
		if whole != s || len(l) != len(piecesByWords(s)) {
			t.Fatalf("%d bytes: %d pieces of %d", n, len(l), len(whole))
		}
	}
}

func TestP111WalkLeft(t *testing.T) {
	for _, n := range lengths {
		s := text(n, 7)
		all := walked(t, s, math.MaxInt)
		for most := 1; most <= len(all); most++ {
			if l := walked(t, s, most); !slices.Equal(l, all[:most]) {
				t.Fatalf("%d bytes, left at %d: %v", n, most, l)
			}
		}
		// One that was left begins anew.
		walk := chunk.Walk(s)
		for range walk {
			break
		}
		count := 0
		for at, piece := range walk {
			if at != all[count].at || piece != all[count].piece {
				t.Fatalf("%d bytes: %d, %q", n, at, piece)
			}
			count++
		}
		if count != len(all) {
			t.Fatalf("%d bytes: %d pieces, not %d", n, count, len(all))
		}
	}
}

// Who says that there is no need of more is not handed more.
func TestP111WalkStops(t *testing.T) {
	for most := 1; most <= 8; most++ {
		calls := 0
		chunk.Walk(text(2048, 3))(func(int, string) bool {
			calls++
			return calls < most
		})
		if calls != most {
			t.Errorf("%d pieces are handed out, not %d", calls, most)
		}
	}
}

func TestP111WalkInWalk(t *testing.T) {
	walk := chunk.Walk(text(600, 5))
	pairs := 0
	for at := range walk {
		for other, piece := range walk {
			if at == other && len(piece) != min(256, 600-at) {
				t.Errorf("%d: %d bytes", at, len(piece))
			}
			pairs++
		}
	}
	if pairs != 9 {
		t.Errorf("%d pairs of pieces", pairs)
	}
}

func TestP111Split(t *testing.T) {
	a, b := text(256, 1), text(256, 2)
	for _, x := range []struct {
		name  string
		texts []string
		l     []string
	}{
		{"no text", nil, nil},
		{"one empty text", []string{""}, nil},
		{"three empty texts", []string{"", "", ""}, nil},
		{"1 byte", []string{"x"}, []string{"x"}},
		{"255 bytes", []string{a[:255]}, []string{a[:255]}},
		{"256 bytes", []string{a}, []string{a}},
		{"257 bytes", []string{a + "x"}, []string{a, "x"}},
		{"512 bytes", []string{a + b}, []string{a, b}},
		{"2048 bytes", []string{strings.Repeat(a+b, 4)}, []string{a, b, a, b, a, b, a, b}},
		{"two", []string{a + "x", "y" + a}, []string{a, "x", "y" + a[:255], a[255:]}},
		{"two short ones", []string{"x", "y"}, []string{"x", "y"}},
		{"two alike", []string{a, a}, []string{a, a}},
		{"an empty one first", []string{"", "x", a}, []string{"x", a}},
		{"an empty one between", []string{a, "", "x"}, []string{a, "x"}},
		{"an empty one last", []string{a + b, "x", ""}, []string{a, b, "x"}},
		{"empty ones everywhere", []string{"", "", "x", "", a + "y", "", ""}, []string{"x", a, "y"}},
		{"one above 2048", []string{strings.Repeat(a, 8) + "x"}, []string{a, a, a, a, a, a, a, a, "x"}},
	} {
		if l := chunk.Split(x.texts...); !slices.Equal(l, x.l) {
			t.Errorf("%s: %q", x.name, l)
		}
	}
}

// some are texts of lengths one after the other, and mixed ones.
func some() [][]string {
	l := [][]string{nil}
	for k, n := range lengths {
		l = append(l, []string{text(n, 1)})
		for _, m := range lengths {
			l = append(l, []string{text(n, 1), text(m, 2)}, []string{text(n, 3), text(lengths[(k+5)%len(lengths)], 4), text(m, 5)})
		}
	}
	for seed := range uint32(200) {
		var texts []string
		for k, b := range sample.Mixed(int(seed%9), seed) {
			texts = append(texts, text(lengths[int(b)%len(lengths)], seed+uint32(k)))
		}
		l = append(l, texts)
	}
	return l
}

// sizesOf are how many bytes texts have.
func sizesOf(texts []string) []int {
	var l []int
	for _, s := range texts {
		l = append(l, len(s))
	}
	return l
}

func TestP111SplitByItsWords(t *testing.T) {
	for _, texts := range some() {
		if l := chunk.Split(texts...); !slices.Equal(l, splitByWords(texts...)) {
			t.Fatalf("%v: %v", sizesOf(texts), sizesOf(l))
		}
		if n := chunk.Count(sizesOf(texts)...); n != len(splitByWords(texts...)) {
			t.Fatalf("%v: %d pieces", sizesOf(texts), n)
		}
	}
}

func TestP111Count(t *testing.T) {
	for _, x := range []struct {
		name  string
		sizes []int
		n     int
	}{
		{"no sizes", nil, 0},
		{"0", []int{0}, 0},
		{"0 twice", []int{0, 0}, 0},
		{"-1", []int{-1}, 0},
		{"-256", []int{-256}, 0},
		{"-257", []int{-257}, 0},
		{"-2048", []int{-2048}, 0},
		{"the least one", []int{math.MinInt}, 0},
		{"1", []int{1}, 1},
		{"255", []int{255}, 1},
		{"256", []int{256}, 1},
		{"257", []int{257}, 2},
		{"512", []int{512}, 2},
		{"513", []int{513}, 3},
		{"1792", []int{1792}, 7},
		{"1793", []int{1793}, 8},
		{"2047", []int{2047}, 8},
		{"2048", []int{2048}, 8},
		{"several", []int{256, 257, 2048}, 11},
		{"each has its own last one", []int{1, 1, 1, 255, 257}, 6},
		{"several, some 0", []int{0, 300, 0, 1, 0}, 3},
		{"several, some below 0", []int{-1, 300, -1000, 1, math.MinInt}, 3},
		{"one below 0 takes nothing away", []int{2048, -2048}, 8},
	} {
		if n := chunk.Count(x.sizes...); n != x.n {
			t.Errorf("%s: %d, not %d", x.name, n, x.n)
		}
	}
	for n := -3000; n <= 2048; n++ {
		if got := chunk.Count(n); got != len(piecesByWords(strings.Repeat("x", max(n, 0)))) {
			t.Fatalf("%d: %d", n, got)
		}
	}
}

func TestP112Join(t *testing.T) {
	a, b := text(256, 1), text(256, 2)
	for _, x := range []struct {
		name   string
		pieces []string
		sizes  []int
		texts  []string
	}{
		{"nothing", nil, nil, nil},
		{"an empty one", nil, []int{0}, []string{""}},
		{"empty ones", nil, []int{0, 0, 0}, []string{"", "", ""}},
		{"1 byte", []string{"x"}, []int{1}, []string{"x"}},
		{"255 bytes", []string{a[:255]}, []int{255}, []string{a[:255]}},
		{"256 bytes", []string{a}, []int{256}, []string{a}},
		{"257 bytes", []string{a, "x"}, []int{257}, []string{a + "x"}},
		{"512 bytes", []string{b, a}, []int{512}, []string{b + a}},
		{"2048 bytes", []string{a, b, b, a, a, a, b, b}, []int{2048}, []string{a + b + b + a + a + a + b + b}},
		{"two", []string{a, "x", b}, []int{257, 256}, []string{a + "x", b}},
		{"two, turned round", []string{b, a, "x"}, []int{256, 257}, []string{b, a + "x"}},
		{"two of 256, not one of 512", []string{a, b}, []int{256, 256}, []string{a, b}},
		{"short ones", []string{"x", "y", "zz"}, []int{1, 1, 2}, []string{"x", "y", "zz"}},
		{"an empty one first", []string{a, "x"}, []int{0, 257}, []string{"", a + "x"}},
		{"an empty one between", []string{"x", a}, []int{1, 0, 256}, []string{"x", "", a}},
		{"an empty one last", []string{a, b}, []int{512, 0}, []string{a + b, ""}},
		{"any bytes", []string{"\x00", "\xff\x80"}, []int{1, 2}, []string{"\x00", "\xff\x80"}},
	} {
		if l, e := chunk.Join(x.pieces, x.sizes...); e != api.OK || !slices.Equal(l, x.texts) {
			t.Errorf("%s: %q, error %d", x.name, l, e)
		}
	}
}

func TestP112JoinWrong(t *testing.T) {
	a, b := text(256, 1), text(256, 2)
	eight := []string{a, b, a, b, a, b, a, b}
	for _, x := range []struct {
		name   string
		pieces []string
		sizes  []int
		e      api.Errno
	}{
		{"a size of -1", nil, []int{-1}, api.ErrRange},
		{"the least size", nil, []int{math.MinInt}, api.ErrRange},
		{"a size of -256", []string{a}, []int{-256}, api.ErrRange},
		{"a size of 2049", append(slices.Clone(eight), "x"), []int{2049}, api.ErrRange},
		{"the greatest size", []string{a}, []int{math.MaxInt}, api.ErrRange},
		{"the first size", []string{a}, []int{-1, 256}, api.ErrRange},
		{"the size between", []string{a, "x"}, []int{256, -1, 1}, api.ErrRange},
		{"the last size", []string{a}, []int{256, 2049}, api.ErrRange},

		{"no sizes, and a piece", []string{"x"}, nil, api.ErrSplit},
		{"no sizes, and an empty piece", []string{""}, nil, api.ErrSplit},
		{"an empty piece of an empty one", []string{""}, []int{0}, api.ErrSplit},
		{"no pieces", nil, []int{1}, api.ErrSplit},
		{"one piece too few", []string{a}, []int{257}, api.ErrSplit},
		{"one piece too few of 2048", eight[:7], []int{2048}, api.ErrSplit},
		{"one piece too few of two", []string{a, "x"}, []int{257, 256}, api.ErrSplit},
		{"the first piece missing", []string{"x", b}, []int{257, 256}, api.ErrSplit},
		{"one piece too many", []string{a, "x"}, []int{256}, api.ErrSplit},
		{"one whole piece too many", []string{a, b}, []int{256}, api.ErrSplit},
		{"one empty piece too many", []string{a, ""}, []int{256}, api.ErrSplit},
		{"one empty piece ahead", []string{"", a}, []int{256}, api.ErrSplit},
		{"one empty piece between", []string{a, "", "x"}, []int{257}, api.ErrSplit},
		{"an empty piece, and one too few", []string{a, ""}, []int{257}, api.ErrSplit},
		{"a shorter last one", []string{a, "x"}, []int{258}, api.ErrSplit},
		{"a longer last one", []string{a, "xyz"}, []int{258}, api.ErrSplit},
		{"a shorter first one", []string{a[:255], "x"}, []int{257}, api.ErrSplit},
		{"a longer first one", []string{a + "x", "x"}, []int{257}, api.ErrSplit},
		{"a byte moved ahead", []string{a + "x", "y"}, []int{258}, api.ErrSplit},
		{"a byte moved behind", []string{a[:255], a[255:] + "x"}, []int{257}, api.ErrSplit},
		{"one of 255 bytes", []string{a}, []int{255}, api.ErrSplit},
		{"one of 256 bytes", []string{a[:255]}, []int{256}, api.ErrSplit},
		{"another order of lengths", []string{"x", a}, []int{257}, api.ErrSplit},
		{"another order of texts", []string{b, a, "x"}, []int{257, 256}, api.ErrSplit},
		{"one in a single piece", []string{a + b}, []int{512}, api.ErrSplit},
		{"one in half pieces", []string{a[:128], a[128:]}, []int{256}, api.ErrSplit},
		{"the first of two", []string{"x", "y"}, []int{2, 1}, api.ErrSplit},
		{"the second of two", []string{"x", "y"}, []int{1, 2}, api.ErrSplit},
		{"two texts' bytes in one piece", []string{"xy"}, []int{1, 1}, api.ErrSplit},
		{"one text's bytes in two pieces", []string{"x", "y"}, []int{2}, api.ErrSplit},
		{"as many bytes in all", []string{"x", "yy"}, []int{2, 1}, api.ErrSplit},

		{"a size below 0 ahead of too few", nil, []int{257, -1}, api.ErrRange},
		{"a size below 0 ahead of too many", []string{a, b}, []int{-1}, api.ErrRange},
		{"a size below 0 ahead of a shorter one", []string{"x", "y"}, []int{2, 1, -1}, api.ErrRange},
		{"a size above 2048 ahead of too few", eight, []int{2049}, api.ErrRange},
		{"a size above 2048 ahead of no pieces", nil, []int{1, 2049}, api.ErrRange},
		{"a size above 2048 ahead of a longer one", append(slices.Clone(eight), "x", "yy"), []int{2049, 1}, api.ErrRange},
		{"sizes that make up for one another", nil, []int{2049, -2049}, api.ErrRange},
	} {
		if l, e := chunk.Join(x.pieces, x.sizes...); l != nil || e != x.e {
			t.Errorf("%s: %q, error %d, not %d", x.name, l, e, x.e)
		}
	}
}

// joined holds Join against the words.
func joined(t *testing.T, pieces []string, sizes []int) api.Errno {
	t.Helper()
	l, e := chunk.Join(pieces, sizes...)
	want, err := joinByWords(pieces, sizes...)
	if e != err || !slices.Equal(l, want) || e != api.OK && l != nil {
		t.Fatalf("%v of %v: %v, error %d, not %v, %d", sizesOf(pieces), sizes, sizesOf(l), e, sizesOf(want), err)
	}
	return e
}

func TestP112JoinByItsWords(t *testing.T) {
	all := some()
	for k, texts := range all {
		pieces := chunk.Split(texts...)
		// The sizes of all these texts, and of others, that are not far from them.
		for _, other := range append(all[max(k-3, 0):k:k], texts, texts[:len(texts)/2], append(slices.Clone(texts), "")) {
			sizes := sizesOf(other)
			joined(t, pieces, sizes)
			for at := range sizes {
				for _, by := range []int{-2048, -256, -1, 1, 256, 2048} {
					few := slices.Clone(sizes)
					few[at] += by
					joined(t, pieces, few)
				}
			}
		}
	}
}

func TestP112JoinAnySizes(t *testing.T) {
	for seed := range uint32(3000) {
		var pieces []string
		var sizes []int
		for k, b := range sample.Mixed(int(seed%7), seed) {
			pieces = append(pieces, text([]int{0, 1, 2, 255, 256, 257}[b%6], seed))
			sizes = append(sizes, []int{-1, 0, 1, 2, 256, 257, 512, 2048, 2049}[(int(b)/6+k)%9])
		}
		joined(t, pieces, sizes)
		joined(t, pieces, sizes[len(sizes)/2:])
	}
}

func TestP113AsItWas(t *testing.T) {
	for _, texts := range some() {
		if l, e := chunk.Join(chunk.Split(texts...), sizesOf(texts)...); e != api.OK || !slices.Equal(l, texts) {
			t.Fatalf("%v: %v, error %d", sizesOf(texts), sizesOf(l), e)
		}
	}
	for n := range 2049 {
		s := text(n, uint32(n))
		if l, e := chunk.Join(chunk.Split(s), n); e != api.OK || !slices.Equal(l, []string{s}) {
			t.Fatalf("%d bytes: %v, error %d", n, sizesOf(l), e)
		}
	}
}

func TestP113FromNoOtherPieces(t *testing.T) {
	for _, texts := range some() {
		pieces, sizes := chunk.Split(texts...), sizesOf(texts)
		others := [][]string{append(slices.Clone(pieces), ""), append(slices.Clone(pieces), "x"), slices.Insert(slices.Clone(pieces), 0, "")}
		for k, piece := range pieces {
			with := func(l ...string) { others = append(others, slices.Concat(pieces[:k], l, pieces[k+1:])) }
			with()
			with("")
			with(piece, "")
			with(piece, piece)
			with(piece + "x")
			with(piece[1:])
			if len(piece) > 1 {
				with(piece[:1], piece[1:])
			}
			if k > 0 && len(pieces[k-1]) != len(piece) {
				others = append(others, slices.Concat(pieces[:k-1], []string{piece, pieces[k-1]}, pieces[k+1:]))
			}
		}
		for _, other := range others {
			// Of other pieces that are as many, and as long, other texts could come, but not these.
			if l, e := chunk.Join(other, sizes...); e != api.ErrSplit || l != nil {
				t.Fatalf("%v of %v: error %d", sizesOf(other), sizes, e)
			}
		}
		for k := range pieces {
			other := slices.Clone(pieces)
			other[k] = "\x00" + other[k][1:]
			if l, e := chunk.Join(other, sizes...); e != api.OK || slices.Equal(l, texts) != slices.Equal(other, pieces) {
				t.Fatalf("%v: error %d", sizes, e)
			}
		}
	}
}

func TestR1Great(t *testing.T) {
	// Nothing is promised of what these count, but that it ends.
	chunk.Count(2049, math.MaxInt, math.MaxInt, math.MaxInt32, math.MinInt)
	if l, e := chunk.Join(nil, math.MaxInt, math.MaxInt); l != nil || e != api.ErrRange {
		t.Errorf("%q, error %d", l, e)
	}
	s := text(1<<20+1, 1)
	if l := chunk.Split(s, s); !slices.Equal(l, splitByWords(s, s)) {
		t.Errorf("%d pieces", len(l))
	}
	many := slices.Repeat([]int{2048, 0, 1}, 3000)
	if n := chunk.Count(many...); n != 27000 {
		t.Errorf("%d pieces", n)
	}
	var texts []string
	for _, n := range many {
		texts = append(texts, s[:n])
	}
	if l, e := chunk.Join(chunk.Split(texts...), many...); e != api.OK || !slices.Equal(l, texts) {
		t.Errorf("%d texts, error %d", len(l), e)
	}
}

func TestR3NoneAndEmpty(t *testing.T) {
	if l := chunk.Split([]string{}...); len(l) != 0 {
		t.Errorf("%q", l)
	}
	if n := chunk.Count([]int{}...); n != 0 {
		t.Errorf("%d", n)
	}
	for _, pieces := range [][]string{nil, {}} {
		for _, sizes := range [][]int{nil, {}} {
			if l, e := chunk.Join(pieces, sizes...); len(l) != 0 || e != api.OK {
				t.Errorf("%q, error %d", l, e)
			}
		}
	}
}

func TestR4HandedIn(t *testing.T) {
	a := text(256, 1)
	texts := []string{a + "x", "", "y", "room"}
	pieces := chunk.Split(texts[:3]...)
	sizes := []int{257, 0, 1, 9}
	back, e := chunk.Join(pieces, sizes[:3]...)
	if e != api.OK || !slices.Equal(texts, []string{a + "x", "", "y", "room"}) || !slices.Equal(pieces, []string{a, "x", "y"}) || !slices.Equal(sizes, []int{257, 0, 1, 9}) {
		t.Fatalf("%q, %q, %v, error %d: what is handed in is changed", texts, pieces, sizes, e)
	}
	if chunk.Count(sizes[:3]...) != 3 || !slices.Equal(sizes, []int{257, 0, 1, 9}) {
		t.Fatalf("%v: what is handed in is changed", sizes)
	}
	// What was handed in is changed afterwards.
	clear(texts)
	split := slices.Clone(pieces)
	clear(pieces)
	clear(sizes)
	if !slices.Equal(back, []string{a + "x", "", "y"}) || !slices.Equal(split, []string{a, "x", "y"}) {
		t.Errorf("%q, %q", back, split)
	}
}

func TestR4HandedOut(t *testing.T) {
	texts, sizes := []string{"x", "y"}, []int{1, 1}
	one, two := chunk.Split(texts...), chunk.Split(texts...)
	clear(one)
	_ = append(one, "z")
	if !slices.Equal(two, []string{"x", "y"}) || !slices.Equal(texts, []string{"x", "y"}) {
		t.Errorf("%q, %q: an answer shares memory", two, texts)
	}
	// Of pieces that are the texts themselves.
	first, _ := chunk.Join(two, sizes...)
	second, _ := chunk.Join(two, sizes...)
	clear(first)
	_ = append(first[:0], "z")
	if !slices.Equal(second, []string{"x", "y"}) || !slices.Equal(two, []string{"x", "y"}) {
		t.Errorf("%q, %q: an answer shares memory", second, two)
	}
}

// Neither an error nor a walk that was left changes what comes behind.
func TestR6Again(t *testing.T) {
	for range 3 {
		chunk.Join([]string{"x"}, 2)
		chunk.Join(nil, -1)
		for range chunk.Walk(text(600, 1)) {
			break
		}
		if l, e := chunk.Join([]string{"x"}, 1); e != api.OK || !slices.Equal(l, []string{"x"}) {
			t.Errorf("%q, error %d", l, e)
		}
		if l := chunk.Split("x", "y"); !slices.Equal(l, []string{"x", "y"}) {
			t.Errorf("%q", l)
		}
	}
}

func TestExamples(t *testing.T) {
	s := text(300, 1)
	if l := chunk.Split(s); !slices.Equal(l, []string{s[:256], s[256:]}) || len(l[1]) != 44 {
		t.Errorf("%v", sizesOf(l))
	}
	if n := chunk.Count(0, 512); n != 2 {
		t.Errorf("%d", n)
	}
}
