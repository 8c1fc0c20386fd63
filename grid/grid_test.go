package grid_test

import (
	"math"
	"math/rand"
	"slices"
	"sync"
	"testing"

	"ligature/api"
	"ligature/encode"
	"ligature/grid"
	"ligature/spine"
	"ligature/token"
	"ligature/vocab"
)

func mustVocab(t *testing.T, s api.Spec) *vocab.Vocab {
	t.Helper()
	v, n, e := vocab.New(s)
	if e != api.OK {
		t.Fatalf("vocab.New of %v: %d, %d", s, n, e)
	}
	return v
}

// mustNew is the grid of a vocabulary, at just its cost.
func mustNew(t *testing.T, v *vocab.Vocab) *grid.Grid {
	t.Helper()
	n := len(v.Ids())
	g, e := grid.New(v, n*n)
	if e != api.OK || g == nil {
		t.Fatalf("New of %v, at most %d: %v, %d", v.Spec(), n*n, g, e)
	}
	return g
}

// sample is tokens 256 ab, 257 a1, 258 bb, 259 <~, 260 abb, 261 1{; special 300 <, 262 <|, MaxId ab; digits of class 1, what stands behind z of class 2; no cut between class 1 and class 2 behind it.
func sample(t *testing.T) *vocab.Vocab {
	t.Helper()
	return mustVocab(t, api.Spec{
		Merges:   []api.Merge{{A: 'a', B: 'b'}, {A: 'a', B: '1'}, {A: 'b', B: 'b'}, {A: '<', B: '~'}, {A: 256, B: 'b'}, {A: '1', B: '{'}},
		Specials: []api.Special{{Id: 300, Text: "<"}, {Id: 262, Text: "<|"}, {Id: api.MaxId, Text: "ab"}},
		Classes:  []api.Class{{Lo: '0', Hi: '9', N: 1}, {Lo: '{', Hi: 255, N: 2}},
		Joins:    []api.Join{{A: 1, B: 2}},
	})
}

// isMade tells, by making them anew, whether tokens are what is made of their items.
func isMade(v *vocab.Vocab, ids ...int) bool {
	items, _, e := v.Items(ids...)
	return e == api.OK && slices.Equal(encode.Made(v, items...), ids)
}

// offence is the least place such that the tokens up to it aren't what is made of their items, and true; 0, false without one.
func offence(v *vocab.Vocab, ids []int) (int, bool) {
	for k := range ids {
		if !isMade(v, ids[:k+1]...) {
			return k, true
		}
	}
	return 0, false
}

func mustHave(t *testing.T, v *vocab.Vocab, g *grid.Grid, a, b int, want bool) {
	t.Helper()
	if got := g.Has(a, b); got != want {
		t.Fatalf("%v: Has(%d, %d): %v", v.Spec(), a, b, got)
	}
}

func mustAlone(t *testing.T, v *vocab.Vocab, g *grid.Grid, id int, want bool) {
	t.Helper()
	if got := g.Alone(id); got != want {
		t.Fatalf("%v: Alone(%d): %v", v.Spec(), id, got)
	}
}

func mustFirst(t *testing.T, v *vocab.Vocab, g *grid.Grid, ids []int, place int, want bool) {
	t.Helper()
	if k, bad := g.First(ids...); k != place || bad != want {
		t.Fatalf("%v: First of %.80v: %d, %v: want %d, %v", v.Spec(), ids, k, bad, place, want)
	}
}

// mustStand holds the places of a grid against the ids of its vocabulary.
func mustStand(t *testing.T, v *vocab.Vocab, g *grid.Grid) {
	t.Helper()
	ids := v.Ids()
	if g.Size() != len(ids) {
		t.Fatalf("Size: %d of %d", g.Size(), len(ids))
	}
	for place, id := range ids {
		if k, ok := g.Place(id); k != place || !ok {
			t.Fatalf("Place(%d): %d, %v: want %d", id, k, ok, place)
		}
		if k, ok := g.Id(place); k != id || !ok {
			t.Fatalf("Id(%d): %d, %v: want %d", place, k, ok, id)
		}
	}
}

// mustRow holds an id's row and count against what may stand behind it, of all ids in their order.
func mustRow(t *testing.T, g *grid.Grid, id int, may []bool) {
	t.Helper()
	row := make([]uint64, (len(may)+63)/64)
	count := 0
	for place, ok := range may {
		if ok {
			row[place/64] += 1 << (place % 64)
			count++
		}
	}
	if got := g.Row(id); !slices.Equal(got, row) {
		t.Fatalf("Row(%d): %x: want %x", id, got, row)
	}
	if got := g.Count(id); got != count {
		t.Fatalf("Count(%d): %d: want %d", id, got, count)
	}
}

// mustTell holds all that a grid tells of some ids, with each other one behind them, against making them anew.
func mustTell(t *testing.T, v *vocab.Vocab, g *grid.Grid, some []int) {
	t.Helper()
	ids := v.Ids()
	for _, a := range some {
		mustAlone(t, v, g, a, isMade(v, a))
		may := make([]bool, len(ids))
		for place, b := range ids {
			may[place] = isMade(v, a, b)
			mustHave(t, v, g, a, b, may[place])
		}
		mustRow(t, g, a, may)
	}
}

// P15.1, P15.2: the chapter's example, and what else is told of it.
func TestExample(t *testing.T) {
	v := mustVocab(t, api.Spec{Merges: []api.Merge{{A: 'a', B: 'b'}}})
	g := mustNew(t, v)
	mustStand(t, v, g)
	mustTell(t, v, g, v.Ids())
	for _, id := range v.Ids() {
		if row := g.Row(id); len(row) != 5 || row['b'/64]>>('b'%64)&1 == 1 != (id != 'a') {
			t.Errorf("Row(%d): %x", id, row)
		}
	}
	if g.Size() != 257 || g.Count('a') != 256 || g.Count(256) != 257 || g.Count('x') != 257 {
		t.Errorf("Size: %d, Count: %d, %d, %d", g.Size(), g.Count('a'), g.Count(256), g.Count('x'))
	}
	if row := g.Row('a'); !slices.Equal(row, []uint64{math.MaxUint64, math.MaxUint64 &^ (1 << ('b' - 64)), math.MaxUint64, math.MaxUint64, 1}) {
		t.Errorf("Row of a: %x", row)
	}
	mustFirst(t, v, g, []int{'x', 'a', 'b'}, 2, true)
}

// P15.1: errors, in their order; a cost of just the most isn't too much.
func TestErrors(t *testing.T) {
	v := sample(t)
	n := len(v.Ids())
	for _, x := range []struct {
		v    *vocab.Vocab
		most int
		want api.Errno
	}{
		{nil, math.MaxInt, api.ErrArg},
		{nil, 0, api.ErrArg},
		{nil, -1, api.ErrArg},
		{nil, math.MinInt, api.ErrArg},
		{v, math.MinInt, api.ErrLimit},
		{v, -1, api.ErrLimit},
		{v, 0, api.ErrLimit},
		{v, n, api.ErrLimit},
		{v, 256 * 256, api.ErrLimit},
		{v, n*n - 1, api.ErrLimit},
		{v, n * n, api.OK},
		{v, n*n + 1, api.OK},
		{v, math.MaxInt, api.OK},
	} {
		g, e := grid.New(x.v, x.most)
		if e != x.want || (g == nil) != (e != api.OK) {
			t.Errorf("New, at most %d: %v, %d: want %d", x.most, g != nil, e, x.want)
		}
	}
}

// P15.1, with rule 3: an error has changed nothing; a grid that is made hasn't either.
func TestUsesStay(t *testing.T) {
	v := sample(t)
	v.Alone('a')
	grid.New(v, 100)
	grid.New(v, -1)
	if n := v.Uses(); n != 1 {
		t.Errorf("Uses, behind errors: %d", n)
	}
	g := mustNew(t, v)
	g.First('a', 'b')
	if n := v.Uses(); n != 1 {
		t.Errorf("Uses: %d", n)
	}
}

// P15.1: places are counted from 0 on, through all ids, rising, however far apart these are.
func TestPlaces(t *testing.T) {
	v := sample(t)
	g := mustNew(t, v)
	mustStand(t, v, g)
	for id, place := range map[int]int{0: 0, 'a': 'a', 255: 255, 256: 256, 261: 261, 262: 262, 300: 263, api.MaxId: 264} {
		if k, ok := g.Place(id); k != place || !ok {
			t.Errorf("Place(%d): %d, %v", id, k, ok)
		}
		if k, ok := g.Id(place); k != id || !ok {
			t.Errorf("Id(%d): %d, %v", place, k, ok)
		}
	}
}

// wrongIds is numbers that sample hasn't.
var wrongIds = []int{math.MinInt, -256, -1, 263, 264, 265, 299, 301, 999, api.MaxId - 1, api.MaxId + 1, math.MaxInt}

// P15.1, P15.2: of what isn't there nothing is told, and false.
func TestNotThere(t *testing.T) {
	v := sample(t)
	g := mustNew(t, v)
	for _, wrong := range wrongIds {
		mustBeNothing(t, g, wrong)
		for _, other := range []int{'x', 256, 300, wrong} {
			mustHave(t, v, g, wrong, other, false)
			mustHave(t, v, g, other, wrong, false)
		}
		mustFirst(t, v, g, []int{wrong}, 0, true)
		mustFirst(t, v, g, []int{'x', 300, wrong, wrong}, 2, true)
	}
	for _, place := range []int{math.MinInt, -1, 265, 300, api.MaxId, math.MaxInt} {
		if id, ok := g.Id(place); id != 0 || ok {
			t.Errorf("Id(%d): %d, %v", place, id, ok)
		}
	}
}

// mustBeNothing tells that a grid has nothing of an id.
func mustBeNothing(t *testing.T, g *grid.Grid, id int) {
	t.Helper()
	if place, ok := g.Place(id); place != 0 || ok {
		t.Errorf("Place(%d): %d, %v", id, place, ok)
	}
	if row := g.Row(id); len(row) > 0 || g.Count(id) != 0 || g.Alone(id) {
		t.Errorf("Row(%d): %x, Count: %d, Alone: %v", id, row, g.Count(id), g.Alone(id))
	}
}

// P15.2: of a nil grid nothing is told, and false; first what isn't there offends. One that no maker answered doesn't panic.
func TestNoGrid(t *testing.T) {
	for _, g := range []*grid.Grid{nil, {}} {
		if g.Size() != 0 {
			t.Errorf("Size: %d", g.Size())
		}
		for _, id := range []int{-1, 0, 'a', 256} {
			mustBeNothing(t, g, id)
			if k, ok := g.Id(id); k != 0 || ok || g.Has(id, 'a') || g.Has('a', id) {
				t.Errorf("Id(%d): %d, %v", id, k, ok)
			}
			if k, bad := g.First(id, 'a'); k != 0 || !bad {
				t.Errorf("First: %d, %v", k, bad)
			}
		}
		if k, bad := g.First(); k != 0 || bad {
			t.Errorf("First of none: %d, %v", k, bad)
		}
	}
	if g, e := grid.New(&vocab.Vocab{}, math.MaxInt); e == api.OK {
		g.First('a', 'b')
	}
}

// P15.1, P15.2: within a piece, where a piece ends, and where special tokens stand; what isn't alone stands nowhere.
func TestSample(t *testing.T) {
	v := sample(t)
	g := mustNew(t, v)
	mustTell(t, v, g, v.Ids())
	for _, x := range []struct {
		a, b int
		want bool
	}{
		{'a', 'b', false},
		{'b', 'a', true},
		{'a', 258, false}, // ab is made where they meet
		{256, 'b', false},
		{256, 258, true},
		{'a', '1', true}, // it is cut there
		{'x', 257, false},
		{257, 'x', false},
		{257, 300, false},
		{300, 257, false},
		{'1', '{', false},
		{'{', '1', true},
		{300, 300, true},
		{300, '|', true},
		{api.MaxId, 'b', true},
		{'a', api.MaxId, true},
	} {
		mustHave(t, v, g, x.a, x.b, x.want)
	}
	for id, want := range map[int]bool{'a': true, 256: true, 257: false, 259: false, 260: true, 261: true, 300: true, api.MaxId: true} {
		mustAlone(t, v, g, id, want)
	}
	if row := g.Row(257); !slices.Equal(row, make([]uint64, 5)) || g.Count(257) != 0 {
		t.Errorf("Row of what isn't alone: %x, %d", row, g.Count(257))
	}
}

// P15.2: the first one that isn't there, isn't alone, or may not stand behind the one ahead of it; none is looked at behind it.
func TestFirst(t *testing.T) {
	v := sample(t)
	g := mustNew(t, v)
	for _, x := range []struct {
		ids   []int
		place int
		bad   bool
	}{
		{nil, 0, false},
		{[]int{'a'}, 0, false},
		{[]int{300}, 0, false},
		{[]int{257}, 0, true},
		{[]int{-1}, 0, true},
		{[]int{'x', 257}, 1, true},
		{[]int{'a', 'b'}, 1, true},
		{[]int{'b', 'a', 'a', 'b', -1}, 3, true},
		{[]int{'b', 'a', -1, 'a', 'b'}, 2, true},
		{[]int{300, 260, 256, 257, 'a', 'b'}, 3, true},
		{[]int{'a', 300, 'b', api.MaxId, 262}, 0, false},
		{[]int{'a', '1', '{'}, 2, true},
		{[]int{'a', 261, '1', 'a'}, 0, false},
	} {
		mustFirst(t, v, g, x.ids, x.place, x.bad)
	}
	ids := slices.Repeat([]int{256, 300, 'b', 'a', '1'}, 40000)
	mustFirst(t, v, g, ids, 0, false)
	ids[150002] = 257
	mustFirst(t, v, g, ids, 150002, true)
}

// P15.2: rows end within a word, with a word, and with a new word's first bit; behind the last id all is 0.
func TestRowEnds(t *testing.T) {
	for _, n := range []int{0, 1, 2, 63, 64, 65, 129} {
		s := api.Spec{}
		for i := range n {
			s.Merges = append(s.Merges, api.Merge{A: i, B: 255 - i})
		}
		v := mustVocab(t, s)
		g := mustNew(t, v)
		mustStand(t, v, g)
		mustTell(t, v, g, []int{0, 1, 100, 254, 255, 255 + n})
		row := g.Row(255) // no merge's first one: it may stand ahead of all
		if len(row) != (256+n+63)/64 || g.Count(255) != 256+n {
			t.Errorf("Row: %x, Count: %d, of %d", row, g.Count(255), 256+n)
		}
	}
}

// P15.1, P15.2, P2: of random vocabularies: as making them anew tells, and the walk along spines.
func TestRandomVocabs(t *testing.T) {
	for seed := range int64(24) {
		r := rand.New(rand.NewSource(seed))
		v := mustVocab(t, randomSpec(r))
		g := mustNew(t, v)
		some := few(v)
		mustStand(t, v, g)
		mustTell(t, v, g, some)
		for _, a := range v.Ids() {
			for _, b := range some {
				mustHave(t, v, g, a, b, spine.Valid(v, a, b))
			}
		}
		for range 60 {
			row := randomRow(r, v, some)
			place, bad := offence(v, row)
			mustFirst(t, v, g, row, place, bad)
			if k, too := spine.First(v, row...); k != place || too != bad {
				t.Fatalf("%v: spine.First of %v: %d, %v", v.Spec(), row, k, too)
			}
		}
	}
}

// few is some of a vocabulary's bytes, and all above them.
func few(v *vocab.Vocab) []int {
	return append([]int{0, 255, 'a', 'b', 'c', '1', '<'}, v.Ids()[256:]...)
}

// randomSpec is merges of few letters, up to three special tokens, and a few classes and joins.
func randomSpec(r *rand.Rand) api.Spec {
	x, _, _ := token.New()
	for range 3 + r.Intn(15) {
		pick := func() int {
			if n := x.Len() - 256; n > 0 && r.Intn(2) > 0 {
				return 256 + r.Intn(n)
			}
			return int("abc1<"[r.Intn(5)])
		}
		x.Add(api.Merge{A: pick(), B: pick()})
	}
	s := api.Spec{Merges: x.Merges()}
	for i, text := range []string{"<", "<a", "b"}[:r.Intn(4)] {
		s.Specials = append(s.Specials, api.Special{Id: 900 - 10*i - r.Intn(9), Text: text})
	}
	for range r.Intn(3) {
		lo := '0' + r.Intn(60)
		s.Classes = append(s.Classes, api.Class{Lo: lo, Hi: lo + r.Intn(60), N: r.Intn(3)})
	}
	for range r.Intn(3) {
		s.Joins = append(s.Joins, api.Join{A: r.Intn(3), B: r.Intn(3)})
	}
	return s
}

// randomRow is up to 9 ids: mostly what is made of some, with one more, so that some offend late.
func randomRow(r *rand.Rand, v *vocab.Vocab, ids []int) []int {
	var row []int
	for range r.Intn(8) {
		row = append(row, ids[r.Intn(len(ids))])
	}
	if r.Intn(3) > 0 {
		items, _, _ := v.Items(row...)
		row = encode.Made(v, items...)
	}
	if r.Intn(9) == 0 {
		return append(row, -1)
	}
	return append(row, ids[r.Intn(len(ids))])
}

// P15.1: a vocabulary that is told by its tokens' bytes is as one told by merges.
func TestRanked(t *testing.T) {
	v := mustVocab(t, api.Spec{Ranked: true, Tokens: []string{"bc", "ab", "abc"}, Specials: []api.Special{{Id: 400, Text: "b"}}})
	g := mustNew(t, v)
	mustStand(t, v, g)
	mustTell(t, v, g, few(v))
	mustFirst(t, v, g, []int{257, 400, 'c', 258, 'b', 257, 'c'}, 6, true) // abc is made, of a and bc
}

// P15.1, P15.2: a vocabulary of as many ids as there may be.
func TestFullVocab(t *testing.T) {
	r := rand.New(rand.NewSource(15))
	x, _, _ := token.New()
	for x.Len() < api.MaxVocab {
		pick := func() int { return []int{'a' + r.Intn(6), r.Intn(x.Len())}[r.Intn(2)] }
		x.Add(api.Merge{A: pick(), B: pick()})
	}
	s := api.Spec{Merges: x.Merges()}
	for i := range api.MaxSpecials {
		s.Specials = append(s.Specials, api.Special{Id: api.MaxId - 3*i, Text: string(rune('A' + i))})
	}
	v := mustVocab(t, s)
	g := mustNew(t, v)
	mustStand(t, v, g)
	mustTell(t, v, g, []int{0, 'a', 'f', 255, 256, 300, 700, 999, api.MaxId, api.MaxId - 93})
	if _, e := grid.New(v, 1032*1032-1); e != api.ErrLimit {
		t.Errorf("New: %d", e)
	}
}

// P15.2, with rule 4: a row is new memory; nothing that is handed in changes, its spare room neither; what is asked again is the same.
func TestHandedInStays(t *testing.T) {
	v := sample(t)
	g := mustNew(t, v)
	room := []int{'b', 256, 300, 'x', 'y'}
	before := slices.Clone(room)
	want := slices.Clone(g.Row('a'))
	for range 2 {
		mustFirst(t, v, g, room[:3], 0, false)
		row := g.Row('a')
		if !slices.Equal(row, want) || g.Has('a', 'b') || g.Count('a') != g.Size()-4 { // not b, nor bb; a1 and <~ are never made
			t.Errorf("Row: %x, Count: %d", row, g.Count('a'))
		}
		for i := range row[:cap(row)] {
			row[:cap(row)][i] = math.MaxUint64
		}
	}
	if !slices.Equal(room, before) {
		t.Errorf("what was handed in: %v", room)
	}
}

// P15.1: a vocabulary is as it was loaded, though its table was handed out and has grown, ahead of the grid or behind it.
func TestGrownTable(t *testing.T) {
	v := mustVocab(t, api.Spec{Merges: []api.Merge{{A: 'a', B: 'b'}}, Specials: []api.Special{{Id: 257, Text: "<"}}})
	x := v.Table()
	if _, e := x.Add(api.Merge{A: 'b', B: 'c'}); e != api.OK {
		t.Fatalf("Add: %d", e)
	}
	g := mustNew(t, v)
	x.Add(api.Merge{A: 'x', B: 'y'})
	v.Table().Add(api.Merge{A: 'x', B: 'z'})
	mustStand(t, v, g)
	mustTell(t, v, g, few(v))
	mustFirst(t, v, g, []int{'b', 'c', 257, 'x', 'y', 'x', 'z', 'a', 'b'}, 8, true)
}

// P15.1, P15.2: many may ask one grid at once, and make grids of one vocabulary.
func TestManyAtOnce(t *testing.T) {
	v := sample(t)
	g := mustNew(t, v)
	var all sync.WaitGroup
	for range 8 {
		all.Go(func() {
			own, e := grid.New(v, math.MaxInt)
			for _, x := range []*grid.Grid{g, own} {
				k, bad := x.First('b', 'a', 300, 'a', 'b')
				if k != 4 || !bad || e != api.OK || x.Has(256, 'b') || !x.Alone(260) || len(x.Row('a')) != 5 {
					t.Errorf("First: %d, %v", k, bad)
				}
			}
		})
	}
	all.Wait()
}
