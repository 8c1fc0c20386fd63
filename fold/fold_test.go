package fold_test

import (
	"math"
	"math/rand"
	"slices"
	"sync"
	"testing"

	"ligature/api"
	"ligature/encode"
	"ligature/fold"
	"ligature/grid"
	"ligature/token"
	"ligature/vocab"
)

func mustVocab(t *testing.T, s api.Spec) *vocab.Vocab {
	t.Helper()
	v, n, e := vocab.New(s)
	if e != api.OK {
		t.Fatalf("vocab.New of %v: %d, %d", s, n, e)
	}
	return v
}

// mustNew is the grid of a vocabulary, and its fold.
func mustNew(t *testing.T, v *vocab.Vocab) (*grid.Grid, *fold.Fold) {
	t.Helper()
	g, e := grid.New(v, math.MaxInt)
	f := fold.New(g)
	if e != api.OK || f == nil {
		t.Fatalf("New of %v: %d, %v", v.Spec(), e, f)
	}
	return g, f
}

// sample is tokens 256 ab, 257 a1, 258 bb, 259 <~, 260 abb, 261 1{; special 300 <, 262 <|, MaxId ab; digits of class 1, what stands behind z of class 2; no cut between class 1 and class 2 behind it.
func sample(t *testing.T) *vocab.Vocab {
	t.Helper()
	return mustVocab(t, api.Spec{
		Merges:   []api.Merge{{A: 'a', B: 'b'}, {A: 'a', B: '1'}, {A: 'b', B: 'b'}, {A: '<', B: '~'}, {A: 256, B: 'b'}, {A: '1', B: '{'}},
		Specials: []api.Special{{Id: 300, Text: "<"}, {Id: 262, Text: "<|"}, {Id: api.MaxId, Text: "ab"}},
		Classes:  []api.Class{{Lo: '0', Hi: '9', N: 1}, {Lo: '{', Hi: 255, N: 2}},
		Joins:    []api.Join{{A: 1, B: 2}},
	})
}

func idsOf(g *grid.Grid) []int {
	var ids []int
	for place := range g.Size() {
		id, _ := g.Id(place)
		ids = append(ids, id)
	}
	return ids
}

// classes numbers ids by which of them are alike, as their first ones come: the class of each, and how many.
func classes(ids []int, same func(a, b int) bool) ([]int, int) {
	var all, firsts []int
	for _, id := range ids {
		n := slices.IndexFunc(firsts, func(first int) bool { return same(first, id) })
		if n < 0 {
			n = len(firsts)
			firsts = append(firsts, id)
		}
		all = append(all, n)
	}
	return all, len(firsts)
}

// mustClass holds the classes of a fold against the words of the document, of all rows and columns of its grid.
func mustClass(t *testing.T, v *vocab.Vocab, g *grid.Grid, f *fold.Fold) {
	t.Helper()
	ids := idsOf(g)
	rows, rowCount := classes(ids, func(a, b int) bool { return slices.Equal(g.Row(a), g.Row(b)) })
	columns, columnCount := classes(ids, func(a, b int) bool {
		return g.Alone(a) == g.Alone(b) && !slices.ContainsFunc(ids, func(first int) bool { return g.Has(first, a) != g.Has(first, b) })
	})
	if f.Rows() != rowCount || f.Columns() != columnCount || f.Bits() != rowCount*columnCount {
		t.Fatalf("%v: %d rows, %d columns, %d bits: want %d, %d", v.Spec(), f.Rows(), f.Columns(), f.Bits(), rowCount, columnCount)
	}
	for i, id := range ids {
		mustRow(t, f, id, rows[i])
		mustColumn(t, f, id, columns[i])
	}
}

func mustRow(t *testing.T, f *fold.Fold, id, want int) {
	t.Helper()
	if n, ok := f.Row(id); n != want || !ok {
		t.Fatalf("Row(%d): %d, %v: want %d", id, n, ok, want)
	}
}

func mustColumn(t *testing.T, f *fold.Fold, id, want int) {
	t.Helper()
	if n, ok := f.Column(id); n != want || !ok {
		t.Fatalf("Column(%d): %d, %v: want %d", id, n, ok, want)
	}
}

// mustAgree tells that a fold has what its grid has, of all ids and a few that aren't there.
func mustAgree(t *testing.T, v *vocab.Vocab, g *grid.Grid, f *fold.Fold) {
	t.Helper()
	ids := append(idsOf(g), -1, 799, math.MaxInt)
	for _, a := range ids {
		if f.Alone(a) != g.Alone(a) {
			t.Fatalf("%v: Alone(%d): %v", v.Spec(), a, f.Alone(a))
		}
		for _, b := range ids {
			if f.Has(a, b) != g.Has(a, b) {
				t.Fatalf("%v: Has(%d, %d): %v", v.Spec(), a, b, f.Has(a, b))
			}
		}
	}
}

func mustFirst(t *testing.T, f *fold.Fold, ids []int, place int, want bool) {
	t.Helper()
	if k, bad := f.First(ids...); k != place || bad != want {
		t.Fatalf("First of %.80v: %d, %v: want %d, %v", ids, k, bad, place, want)
	}
}

// P16.1: the chapter's example: of the rows of a and of all others the first one is another one's.
func TestExample(t *testing.T) {
	v := mustVocab(t, api.Spec{Merges: []api.Merge{{A: 'a', B: 'b'}}})
	g, f := mustNew(t, v)
	if f.Rows() != 2 || f.Columns() != 2 || f.Bits() != 4 {
		t.Errorf("%d rows, %d columns, %d bits", f.Rows(), f.Columns(), f.Bits())
	}
	for _, id := range idsOf(g) {
		row, column := 0, 0
		if id == 'a' {
			row = 1
		}
		if id == 'b' {
			column = 1
		}
		mustRow(t, f, id, row)
		mustColumn(t, f, id, column)
	}
	mustAgree(t, v, g, f)
	mustFirst(t, f, []int{'x', 'a', 'b'}, 2, true)
}

// P16.1: of bytes alone all are alike.
func TestBytesAlone(t *testing.T) {
	v := mustVocab(t, api.Spec{})
	g, f := mustNew(t, v)
	mustClass(t, v, g, f)
	mustAgree(t, v, g, f)
	if f.Rows() != 1 || f.Columns() != 1 || f.Bits() != 1 {
		t.Errorf("%d rows, %d columns, %d bits", f.Rows(), f.Columns(), f.Bits())
	}
}

// P16.1: classes are numbered in the order of their first ids, from the byte 0 on.
func TestOrder(t *testing.T) {
	v := mustVocab(t, api.Spec{Merges: []api.Merge{{A: 1, B: 0}, {A: 0, B: 2}, {A: 3, B: 2}, {A: 1, B: 4}}})
	g, f := mustNew(t, v)
	mustClass(t, v, g, f)
	for id, want := range map[int]int{0: 0, 1: 1, 2: 2, 3: 0, 4: 2, 5: 2, 255: 2} {
		mustRow(t, f, id, want)
	}
	for id, want := range map[int]int{0: 0, 1: 1, 2: 2, 3: 1, 4: 0, 5: 1, 255: 1} {
		mustColumn(t, f, id, want)
	}
}

// P16.1: a may stand behind none, yet is alone; 513 is never made: unlike columns of like bits.
func TestColumnsOfLikeBits(t *testing.T) {
	l := []api.Merge{{A: 'a', B: 'a'}}
	for x := range 256 {
		if x != 'a' {
			l = append(l, api.Merge{A: x, B: 'a'})
		}
	}
	l = append(l, api.Merge{A: 256, B: 'a'}, api.Merge{A: 257, B: 'a'}, api.Merge{A: 258, B: 'a'})
	v := mustVocab(t, api.Spec{Merges: l})
	g, f := mustNew(t, v)
	mustClass(t, v, g, f)
	mustAgree(t, v, g, f)
	for _, id := range idsOf(g) {
		if g.Has(id, 'a') || g.Has(id, 513) {
			t.Fatalf("%d: a or 513 may stand behind it", id)
		}
	}
	single, _ := f.Column('a')
	never, _ := f.Column(513)
	if single == never || !f.Alone('a') || f.Alone(513) {
		t.Errorf("Columns: %d, %d; alone: %v, %v", single, never, f.Alone('a'), f.Alone(513))
	}
	mustColumn(t, f, 514, never) // never made either
	mustFirst(t, f, []int{'a'}, 0, false)
	mustFirst(t, f, []int{513}, 0, true)
}

// P16.1: rows are alike by their bits alone, though one of them is of a token that is alone.
func TestRowsOfLikeBits(t *testing.T) {
	l := []api.Merge{{A: 'a', B: 'a'}}
	for x := range 256 {
		if x != 'a' {
			l = append(l, api.Merge{A: 'a', B: x})
		}
	}
	l = append(l, api.Merge{A: 256, B: 'a'}, api.Merge{A: 'a', B: 257})
	v := mustVocab(t, api.Spec{Merges: l})
	g, f := mustNew(t, v)
	mustClass(t, v, g, f)
	mustAgree(t, v, g, f)
	single, _ := f.Row('a')
	mustRow(t, f, 513, single)
	if g.Count('a') != 0 || g.Count(513) != 0 || !f.Alone('a') || f.Alone(513) {
		t.Errorf("Count: %d, %d; alone: %v, %v", g.Count('a'), g.Count(513), f.Alone('a'), f.Alone(513))
	}
	mustFirst(t, f, []int{'b', 'a'}, 0, false)
	mustFirst(t, f, []int{'b', 'a', 'b'}, 2, true)
}

// mustBeNothing tells that a fold has nothing of an id.
func mustBeNothing(t *testing.T, f *fold.Fold, id int) {
	t.Helper()
	if n, ok := f.Row(id); n != 0 || ok {
		t.Errorf("Row(%d): %d, %v", id, n, ok)
	}
	if n, ok := f.Column(id); n != 0 || ok {
		t.Errorf("Column(%d): %d, %v", id, n, ok)
	}
	if f.Alone(id) || f.Has(id, 'a') || f.Has('a', id) || f.Has(id, id) {
		t.Errorf("%d: Alone: %v, Has: %v, %v", id, f.Alone(id), f.Has(id, 'a'), f.Has('a', id))
	}
}

// P16.1: of what isn't there nothing is told, and false.
func TestNotThere(t *testing.T) {
	_, f := mustNew(t, sample(t))
	for _, wrong := range []int{math.MinInt, -256, -1, 263, 264, 265, 299, 301, 999, api.MaxId - 1, api.MaxId + 1, math.MaxInt} {
		mustBeNothing(t, f, wrong)
		mustFirst(t, f, []int{wrong}, 0, true)
		mustFirst(t, f, []int{'x', 300, wrong, wrong}, 2, true)
	}
}

// P16.1: of a nil grid nil; of a nil fold nothing is told, and false; first what isn't there offends. Those that no maker answered don't panic.
func TestNoFold(t *testing.T) {
	if f := fold.New(nil); f != nil {
		t.Errorf("New of nil: %v", f)
	}
	for _, f := range []*fold.Fold{nil, {}, fold.New(&grid.Grid{})} {
		for _, id := range []int{math.MinInt, -1, 0, 'a', 256} {
			mustBeNothing(t, f, id)
			mustFirst(t, f, []int{id, 'a'}, 0, true)
		}
		mustFirst(t, f, nil, 0, false)
		if f.Rows() != 0 || f.Columns() != 0 || f.Bits() != 0 {
			t.Errorf("%d rows, %d columns, %d bits", f.Rows(), f.Columns(), f.Bits())
		}
	}
}

// P16.1, P16.2: within a piece, where a piece ends, and where special tokens stand.
func TestSample(t *testing.T) {
	v := sample(t)
	g, f := mustNew(t, v)
	mustClass(t, v, g, f)
	mustAgree(t, v, g, f)
	like, _ := f.Row('x')
	for _, id := range []int{0, 300, 262, api.MaxId} { // whatever is alone may stand behind these
		mustRow(t, f, id, like)
	}
	never, _ := f.Column(257)
	mustColumn(t, f, 259, never)
	for _, x := range []struct {
		ids   []int
		place int
		bad   bool
	}{
		{nil, 0, false},
		{[]int{'a'}, 0, false},
		{[]int{300}, 0, false},
		{[]int{257}, 0, true},
		{[]int{'x', 257}, 1, true},
		{[]int{'a', 'b'}, 1, true},
		{[]int{'b', 'a', 'a', 'b', -1}, 3, true},
		{[]int{'b', 'a', -1, 'a', 'b'}, 2, true},
		{[]int{300, 260, 256, 257, 'a', 'b'}, 3, true},
		{[]int{'a', 300, 'b', api.MaxId, 262}, 0, false},
		{[]int{'a', '1', '{'}, 2, true},
		{[]int{'a', 261, '1', 'a'}, 0, false},
	} {
		mustFirst(t, f, x.ids, x.place, x.bad)
	}
	ids := slices.Repeat([]int{256, 300, 'b', 'a', '1'}, 40000)
	mustFirst(t, f, ids, 0, false)
	ids[150002] = 257
	mustFirst(t, f, ids, 150002, true)
}

// offence is the least place such that the tokens up to it aren't what is made of their items, and true; 0, false without one.
func offence(v *vocab.Vocab, ids []int) (int, bool) {
	for k := range ids {
		items, _, e := v.Items(ids[:k+1]...)
		if e != api.OK || !slices.Equal(encode.Made(v, items...), ids[:k+1]) {
			return k, true
		}
	}
	return 0, false
}

// P16.1, P16.2, P2: of random vocabularies: classes, all bits, and first offences, also by making them anew.
func TestRandomVocabs(t *testing.T) {
	for seed := range int64(24) {
		r := rand.New(rand.NewSource(seed))
		v := mustVocab(t, randomSpec(r))
		g, f := mustNew(t, v)
		mustClass(t, v, g, f)
		mustAgree(t, v, g, f)
		some := append([]int{0, 255, 'a', 'b', 'c', '1', '<'}, v.Ids()[256:]...)
		for range 60 {
			row := randomRow(r, v, some)
			place, bad := offence(v, row)
			mustFirst(t, f, row, place, bad)
			if k, too := g.First(row...); k != place || too != bad {
				t.Fatalf("%v: First of the grid of %v: %d, %v", v.Spec(), row, k, too)
			}
		}
	}
}

// randomSpec is merges of few letters, up to three special tokens, and a few classes and joins.
func randomSpec(r *rand.Rand) api.Spec {
	x, _, _ := token.New()
	for range 3 + r.Intn(15) {
		pick := func() int {
			if n := x.Len() - 256; n > 0 && r.Intn(2) > 0 {
				return 256 + r.Intn(n)
			}
			return int("abc1<"[r.Intn(5)])
		}
		x.Add(api.Merge{A: pick(), B: pick()})
	}
	s := api.Spec{Merges: x.Merges()}
	for i, text := range []string{"<", "<a", "b"}[:r.Intn(4)] {
		s.Specials = append(s.Specials, api.Special{Id: 900 - 10*i - r.Intn(9), Text: text})
	}
	for range r.Intn(3) {
		lo := '0' + r.Intn(60)
		s.Classes = append(s.Classes, api.Class{Lo: lo, Hi: lo + r.Intn(60), N: r.Intn(3)})
	}
	for range r.Intn(3) {
		s.Joins = append(s.Joins, api.Join{A: r.Intn(3), B: r.Intn(3)})
	}
	return s
}

// randomRow is up to 9 ids: mostly what is made of some, with one more, so that some offend late.
func randomRow(r *rand.Rand, v *vocab.Vocab, ids []int) []int {
	var row []int
	for range r.Intn(8) {
		row = append(row, ids[r.Intn(len(ids))])
	}
	if r.Intn(3) > 0 {
		items, _, _ := v.Items(row...)
		row = encode.Made(v, items...)
	}
	if r.Intn(9) == 0 {
		return append(row, -1)
	}
	return append(row, ids[r.Intn(len(ids))])
}

// P16.1, P16.2: a vocabulary of as many ids as there may be.
func TestFullVocab(t *testing.T) {
	r := rand.New(rand.NewSource(16))
	x, _, _ := token.New()
	for x.Len() < api.MaxVocab {
		pick := func() int { return []int{'a' + r.Intn(6), r.Intn(x.Len())}[r.Intn(2)] }
		x.Add(api.Merge{A: pick(), B: pick()})
	}
	s := api.Spec{Merges: x.Merges()}
	for i := range api.MaxSpecials {
		s.Specials = append(s.Specials, api.Special{Id: api.MaxId - 3*i, Text: string(rune('A' + i))})
	}
	v := mustVocab(t, s)
	g, f := mustNew(t, v)
	mustAgree(t, v, g, f)
	rows, n := classes(idsOf(g), func(a, b int) bool { return slices.Equal(g.Row(a), g.Row(b)) })
	for place, id := range idsOf(g) {
		mustRow(t, f, id, rows[place])
	}
	if f.Rows() != n || f.Bits() != n*f.Columns() {
		t.Errorf("%d rows of %d, %d columns, %d bits", f.Rows(), n, f.Columns(), f.Bits())
	}
}

// P16.1, with rule 4: nothing that is handed in changes, its spare room neither; what is asked again is the same.
func TestHandedInStays(t *testing.T) {
	g, f := mustNew(t, sample(t))
	room := []int{'b', 256, 300, 'x', 'y'}
	before := slices.Clone(room)
	row := slices.Clone(g.Row('a'))
	for range 2 {
		mustFirst(t, f, room[:3], 0, false)
		mustFirst(t, fold.New(g), room[:3], 0, false)
	}
	if !slices.Equal(room, before) || !slices.Equal(g.Row('a'), row) {
		t.Errorf("what was handed in: %v, %x", room, g.Row('a'))
	}
}

// P16.1: many may ask one fold at once, and make folds of one grid.
func TestManyAtOnce(t *testing.T) {
	g, f := mustNew(t, sample(t))
	var all sync.WaitGroup
	for range 8 {
		all.Go(func() {
			for _, x := range []*fold.Fold{f, fold.New(g)} {
				k, bad := x.First('b', 'a', 300, 'a', 'b')
				if n, ok := x.Row('a'); k != 4 || !bad || n == 0 || !ok || x.Has(256, 'b') || !x.Alone(260) {
					t.Errorf("First: %d, %v", k, bad)
				}
			}
		})
	}
	all.Wait()
}
