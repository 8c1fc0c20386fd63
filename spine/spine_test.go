package spine_test

import (
	"math"
	"math/rand"
	"slices"
	"strings"
	"sync"
	"testing"

	"ligature/api"
	"ligature/chain"
	"ligature/encode"
	"ligature/spine"
	"ligature/token"
	"ligature/vocab"
)

func mustTable(t *testing.T, l ...api.Merge) *token.Table {
	t.Helper()
	x, _, e := token.New(l...)
	if e != api.OK {
		t.Fatalf("New of %v: error %d", l, e)
	}
	return x
}

func mustNew(t *testing.T, s api.Spec) *vocab.Vocab {
	t.Helper()
	v, n, e := vocab.New(s)
	if e != api.OK {
		t.Fatalf("New of %v: %d, %d", s, n, e)
	}
	return v
}

// walked is the walk by the words of the document alone: whether two that are there may, and how many were taken apart.
func walked(merges []api.Merge, a, b, limit int) (bool, int) {
	if i := slices.Index(merges, api.Merge{A: a, B: b}); i >= 0 && 256+i < limit {
		return false, 0
	}
	aIsByte, bIsByte := a < 256, b < 256
	switch {
	case aIsByte && bIsByte:
		return true, 0
	case bIsByte || !aIsByte && a > b:
		ok, n := walked(merges, merges[a-256].B, b, a)
		return ok, n + 1
	default:
		ok, n := walked(merges, a, merges[b-256].A, b+1)
		return ok, n + 1
	}
}

// isAlone tells, by making it anew, whether a token is what is made of its bytes.
func isAlone(x *token.Table, id int) bool {
	text, ok := x.Bytes(id)
	return ok && slices.Equal(chain.Encode(x, text), []int{id})
}

// isValid tells, by making them anew, whether two ids of a vocabulary may stand side by side.
func isValid(v *vocab.Vocab, a, b int) bool {
	return isCanonical(v, []int{a, b})
}

func isCanonical(v *vocab.Vocab, ids []int) bool {
	items, _, e := v.Items(ids...)
	return e == api.OK && slices.Equal(encode.Made(v, items...), ids)
}

// offence is the least place such that the tokens up to it aren't what is made of their items, and true; 0, false without one.
func offence(v *vocab.Vocab, ids []int) (int, bool) {
	for k := range ids {
		if !isCanonical(v, ids[:k+1]) {
			return k, true
		}
	}
	return 0, false
}

// mustWalk holds what is told of a walk against what is wanted.
func mustWalk(t *testing.T, x *token.Table, a, b, limit int, want bool) {
	t.Helper()
	if got := spine.Walk(x, a, b, limit); got != want {
		t.Fatalf("%v: Walk(%d, %d, %d): %v", x.Merges(), a, b, limit, got)
	}
}

func mustStep(t *testing.T, x *token.Table, a, b, want int) {
	t.Helper()
	if got := spine.Steps(x, a, b); got != want {
		t.Fatalf("%v: Steps(%d, %d): %d: want %d", x.Merges(), a, b, got, want)
	}
}

func mustAlone(t *testing.T, x *token.Table, id int, want bool) {
	t.Helper()
	if got := spine.Alone(x, id); got != want {
		t.Fatalf("%v: Alone(%d): %v", x.Merges(), id, got)
	}
}

func mustValid(t *testing.T, v *vocab.Vocab, a, b int, want bool) {
	t.Helper()
	if got := spine.Valid(v, a, b); got != want {
		t.Fatalf("%v: Valid(%d, %d): %v", v.Spec(), a, b, got)
	}
}

func mustFirst(t *testing.T, v *vocab.Vocab, ids []int, place int, want bool) {
	t.Helper()
	if k, bad := spine.First(v, ids...); k != place || bad != want {
		t.Fatalf("%v: First of %.80v: %d, %v: want %d, %v", v.Spec(), ids, k, bad, place, want)
	}
}

// P14.1, P14.2: the chapter's example, and those of the whole that are of this layer.
func TestExamples(t *testing.T) {
	v := mustNew(t, api.Spec{Merges: []api.Merge{{A: 'a', B: 'b'}, {A: 'b', B: 'c'}}})
	mustValid(t, v, 'a', 257, false)
	mustValid(t, v, 256, 'c', true)
	mustWalk(t, v.Table(), 'a', 257, math.MaxInt, false)
	mustWalk(t, v.Table(), 256, 'c', math.MaxInt, true)

	v = mustNew(t, api.Spec{Merges: []api.Merge{{A: 'a', B: 'b'}, {A: 256, B: 'c'}}})
	mustFirst(t, v, []int{257, 256}, 0, false)
	mustFirst(t, v, []int{'a', 'b', 'c', 256}, 1, true)

	v = mustNew(t, api.Spec{Merges: []api.Merge{{A: 'b', B: 'c'}, {A: 'a', B: 'b'}, {A: 257, B: 'c'}}})
	mustAlone(t, v.Table(), 258, false)
	mustFirst(t, v, []int{258}, 0, true)
	mustFirst(t, v, []int{'a', 256}, 0, false)
}

// P14.1: a limit is above what may part the two; only what is below it does.
func TestLimits(t *testing.T) {
	x := mustTable(t, api.Merge{A: 'a', B: 'b'}, api.Merge{A: 256, B: 'c'}, api.Merge{A: 'x', B: 'y'})
	for limit, want := range map[int]bool{math.MinInt: true, -1: true, 0: true, 'a': true, 255: true, 256: true, 257: false, 258: false, math.MaxInt: false} {
		mustWalk(t, x, 'a', 'b', limit, want)
	}
	for limit, want := range map[int]bool{math.MinInt: true, 0: true, 256: true, 257: true, 258: false, 259: false, math.MaxInt: false} {
		mustWalk(t, x, 256, 'c', limit, want)
	}
	for _, limit := range []int{math.MinInt, 0, 258, math.MaxInt} {
		mustWalk(t, x, 'b', 'a', limit, true)
		mustWalk(t, x, 'c', 258, limit, true)
	}
}

// P14.1: the limit at first holds until one is taken apart: then it is that one's number, or one more, though it was lower.
func TestLimitIsSetAnew(t *testing.T) {
	// 256 ab, 257 bc: what parts a, bc is ab.
	x := mustTable(t, api.Merge{A: 'a', B: 'b'}, api.Merge{A: 'b', B: 'c'})
	for _, limit := range []int{math.MinInt, 0, 256, 257} {
		mustWalk(t, x, 'a', 257, limit, false)
	}
	// 256 bc, 257 ab: what parts ab, c is bc.
	x = mustTable(t, api.Merge{A: 'b', B: 'c'}, api.Merge{A: 'a', B: 'b'})
	for _, limit := range []int{math.MinInt, 0, 256, 257} {
		mustWalk(t, x, 257, 'c', limit, false)
	}
}

// P14.1: one more than the number of the second one, its own number of the first one: of a run the first two become one.
func TestLimitOfEachSide(t *testing.T) {
	x := mustTable(t, api.Merge{A: 'a', B: 'a'}, api.Merge{A: 256, B: 'a'}) // aa, aaa
	mustWalk(t, x, 'a', 256, math.MaxInt, false)
	mustWalk(t, x, 256, 'a', math.MaxInt, false) // aaa is made of these
	mustWalk(t, x, 256, 'a', 257, true)
	mustWalk(t, x, 256, 256, math.MaxInt, true) // the second one is taken apart first: had it been the other one, a would meet a below 257
	mustWalk(t, x, 256, 257, math.MaxInt, true)
	mustWalk(t, x, 257, 256, math.MaxInt, false)
	mustWalk(t, x, 257, 257, math.MaxInt, false)
	mustWalk(t, x, 257, 'a', math.MaxInt, false)
	mustWalk(t, x, 'a', 257, math.MaxInt, false)
}

// P14.1: each one that is taken apart counts, whether they may or not.
func TestSteps(t *testing.T) {
	// 256 ab, 257 abc, 258 cd, 259 bcd: never made.
	x := mustTable(t, api.Merge{A: 'a', B: 'b'}, api.Merge{A: 256, B: 'c'}, api.Merge{A: 'c', B: 'd'}, api.Merge{A: 'b', B: 258})
	mustStep(t, x, 'x', 'y', 0)
	mustStep(t, x, 'a', 'b', 0) // they may not at once
	mustStep(t, x, 256, 'c', 0)
	mustStep(t, x, 'b', 258, 0)
	mustStep(t, x, 256, 'x', 1)
	mustStep(t, x, 'x', 256, 1)
	mustStep(t, x, 257, 'x', 1)
	mustStep(t, x, 'x', 257, 2)
	mustStep(t, x, 256, 258, 1) // cd first: ab and c below 259 may not
	mustStep(t, x, 257, 'd', 1) // abc: c and d below 257: may
	mustStep(t, x, 257, 257, 3)
	mustStep(t, x, 256, 256, 2)
	mustStep(t, x, 259, 259, 3)
	mustStep(t, x, 'a', 259, 1) // b stands there: a and b
	mustStep(t, x, 259, 'x', 2)

	y := mustTable(t, api.Merge{A: 'a', B: 'a'})
	mustStep(t, y, 256, 256, 2)
	mustStep(t, y, 'a', 256, 1)
	mustStep(t, y, 256, 'a', 1)
}

// wrongIds is numbers that no table of two merges has.
var wrongIds = []int{math.MinInt, -256, -1, 258, 259, 1000, api.MaxId, math.MaxInt}

// P14.1: if one isn't there, they may not, none is taken apart, and it isn't alone; likewise of no table.
func TestNotThere(t *testing.T) {
	x := mustTable(t, api.Merge{A: 'a', B: 'b'}, api.Merge{A: 256, B: 'c'})
	for _, y := range []*token.Table{x, nil, {}} { // the last one no maker answered: nothing is there
		for _, wrong := range wrongIds {
			for _, other := range []int{'x', 257, wrong} {
				mustWalk(t, y, wrong, other, math.MaxInt, false)
				mustWalk(t, y, other, wrong, math.MaxInt, false)
				mustWalk(t, y, wrong, other, math.MinInt, false)
				mustStep(t, y, wrong, other, 0)
				mustStep(t, y, other, wrong, 0)
			}
			mustAlone(t, y, wrong, false)
		}
	}
	for _, id := range []int{0, 'a', 255, 256, 257} {
		mustWalk(t, nil, id, 'x', math.MaxInt, false)
		mustStep(t, nil, id, 'x', 0)
		mustAlone(t, nil, id, false)
		mustAlone(t, x, id, true)
	}
}

// P14.1: a token is alone, if nothing below it parts its parents, and these are alone.
func TestAlone(t *testing.T) {
	// 256 bc, 257 ab, 258 abc of ab and c: bc comes first; 259 xabc, whose parent is never made; 260 abca likewise; 261 yx, 262 yxabc.
	x := mustTable(t, api.Merge{A: 'b', B: 'c'}, api.Merge{A: 'a', B: 'b'}, api.Merge{A: 257, B: 'c'}, api.Merge{A: 'x', B: 258}, api.Merge{A: 258, B: 'a'}, api.Merge{A: 'y', B: 'x'}, api.Merge{A: 261, B: 258})
	for id, want := range map[int]bool{0: true, 'a': true, 255: true, 256: true, 257: true, 258: false, 259: false, 260: false, 261: true, 262: false} {
		mustAlone(t, x, id, want)
	}
	// of a and aa: two a become aa, then one stands behind.
	x = mustTable(t, api.Merge{A: 'a', B: 'a'}, api.Merge{A: 'a', B: 256}, api.Merge{A: 256, B: 256}, api.Merge{A: 258, B: 'a'})
	for id, want := range map[int]bool{256: true, 257: false, 258: true, 259: true} {
		mustAlone(t, x, id, want)
	}
}

// P14.1: of all tokens of a random table: walks as the document says, with many limits, and what is made anew is the same.
func TestRandomWalks(t *testing.T) {
	for seed := range int64(60) {
		r := rand.New(rand.NewSource(seed))
		x := randomTable(r, 1+int(seed)%4, 3+r.Intn(30))
		ids := few(x)
		for _, a := range ids {
			mustAlone(t, x, a, isAlone(x, a))
			for _, b := range ids {
				mustBeWalked(t, r, x, a, b)
			}
		}
	}
}

// mustBeWalked holds what is told of two tokens against the document.
func mustBeWalked(t *testing.T, r *rand.Rand, x *token.Table, a, b int) {
	t.Helper()
	merges := x.Merges()
	for _, limit := range []int{math.MaxInt, x.Len(), max(a, b), max(a, b) + 1, min(a, b), 256 + r.Intn(len(merges)+1), 0, -1} {
		ok, _ := walked(merges, a, b, limit)
		mustWalk(t, x, a, b, limit, ok)
	}
	ok, n := walked(merges, a, b, math.MaxInt)
	mustStep(t, x, a, b, n)
	if !isAlone(x, a) || !isAlone(x, b) {
		return
	}
	first, _ := x.Bytes(a)
	second, _ := x.Bytes(b)
	if made := chain.Encode(x, first+second); slices.Equal(made, []int{a, b}) != ok {
		t.Fatalf("%v: %d, %d: %v, but %v is made", merges, a, b, ok, made)
	}
	for limit := max(a, b, 255) + 1; limit <= x.Len(); limit++ {
		mustWalk(t, x, a, b, limit, slices.Equal(chain.Below(x, first+second, limit), []int{a, b}))
	}
}

// randomTable is a table of tokens of a few unlike bytes, many of them long, some never made.
func randomTable(r *rand.Rand, letters, merges int) *token.Table {
	x, _, _ := token.New()
	pick := func() int {
		if n := x.Len() - 256; n > 0 && r.Intn(3) > 0 {
			return 256 + r.Intn(n)
		}
		return 'a' + r.Intn(letters)
	}
	for range merges {
		x.Add(api.Merge{A: pick(), B: pick()})
	}
	return x
}

// few is some of a table's bytes, and all above them.
func few(x *token.Table) []int {
	ids := []int{0, 255, 'a', 'b', 'c', 'd'}
	for id := 256; id < x.Len(); id++ {
		ids = append(ids, id)
	}
	return ids
}

// P14.1: tokens of the most bytes there may be: of a run one by one, and by halves.
func TestLongSpines(t *testing.T) {
	l := []api.Merge{{A: 'a', B: 'a'}}
	for i := range 62 {
		l = append(l, api.Merge{A: 256 + i, B: 'a'})
	}
	x := mustTable(t, l...)
	longest := x.Len() - 1
	mustAlone(t, x, longest, false) // but four a are two aa
	mustStep(t, x, 'b', longest, 63)
	mustStep(t, x, longest, 'b', 1)
	mustWalk(t, x, 'b', longest, math.MaxInt, true)

	l = []api.Merge{{A: 'a', B: 'b'}}
	for i := range 62 {
		l = append(l, api.Merge{A: 256 + i, B: 'b'})
	}
	x = mustTable(t, l...)
	for id := range x.Len() {
		mustAlone(t, x, id, true)
		mustWalk(t, x, longest, id, math.MaxInt, true)
		mustWalk(t, x, id, 'b', math.MaxInt, id == longest || id < 256 && id != 'a')
	}
	mustStep(t, x, longest, longest, 64) // of the second one all, down to a; then b stands behind the first one

	l = []api.Merge{{A: 'a', B: 'a'}}
	for i := range 5 {
		l = append(l, api.Merge{A: 256 + i, B: 256 + i})
	}
	x = mustTable(t, l...)
	longest = x.Len() - 1
	for id := range x.Len() {
		mustAlone(t, x, id, true)
		mustWalk(t, x, longest, id, math.MaxInt, true)
		mustWalk(t, x, id, longest, math.MaxInt, id == longest || id < 256 && id != 'a')
	}
	mustStep(t, x, longest, longest, 12)
}

// sample is tokens 256 ab, 257 a1, 258 bb, 259 <~, 260 abb, 261 1{; special 300 <, 262 <|, MaxId ab; digits of class 1, what stands behind z of class 2; no cut between class 1 and class 2 behind it.
func sample(t *testing.T) *vocab.Vocab {
	t.Helper()
	return mustNew(t, api.Spec{
		Merges:   []api.Merge{{A: 'a', B: 'b'}, {A: 'a', B: '1'}, {A: 'b', B: 'b'}, {A: '<', B: '~'}, {A: 256, B: 'b'}, {A: '1', B: '{'}},
		Specials: []api.Special{{Id: 300, Text: "<"}, {Id: 262, Text: "<|"}, {Id: api.MaxId, Text: "ab"}},
		Classes:  []api.Class{{Lo: '0', Hi: '9', N: 1}, {Lo: '{', Hi: 255, N: 2}},
		Joins:    []api.Join{{A: 1, B: 2}},
	})
}

// P14.2: within a piece, where a piece ends, and where special tokens stand.
func TestValid(t *testing.T) {
	v := sample(t)
	for _, x := range []struct {
		a, b int
		want bool
	}{
		{'a', 'b', false},
		{'b', 'a', true},
		{'a', 'a', true},
		{256, 'b', false}, // abb
		{'b', 256, true},
		{'a', 258, false}, // ab is made where they meet
		{260, 'b', false}, // ab, bb: bb is made ahead of abb
		{260, 'a', true},
		{256, 258, true},
		{258, 258, true},
		{'b', 258, false},
		{'a', '1', true},  // it is cut there: a1 is never made
		{257, 'x', false}, // nor beside anything
		{'x', 257, false},
		{257, 300, false},
		{300, 257, false},
		{257, 257, false},
		{'1', '{', false}, // no cut there: it is a token
		{'{', '1', true},  // it is cut
		{261, '1', true},  // it is cut
		{'1', 261, true},  // 1 1{
		{300, 300, true},
		{300, '|', true}, // < and | would be the text of 262
		{'a', 300, true},
		{300, 256, true},
		{256, 262, true},
		{'<', '|', true},       // bytes, whatever their text would be parsed to
		{api.MaxId, 'b', true}, // its text isn't looked at
		{'a', api.MaxId, true},
		{api.MaxId, 262, true},
	} {
		mustValid(t, v, x.a, x.b, x.want)
	}
}

// P14.2: false, if one isn't there; of no vocabulary nothing is.
func TestValidNotThere(t *testing.T) {
	v := sample(t)
	for _, wrong := range []int{math.MinInt, -3, -1, 263, 299, 301, 999, api.MaxId - 1, api.MaxId + 1, math.MaxInt} {
		for _, other := range []int{'x', 256, 300, wrong} {
			mustValid(t, v, wrong, other, false)
			mustValid(t, v, other, wrong, false)
		}
		mustFirst(t, v, []int{wrong}, 0, true)
		mustFirst(t, v, []int{'x', 300, wrong, wrong}, 2, true)
	}
	for _, none := range []*vocab.Vocab{nil, {}} { // the last one no maker answered: nothing is there
		for _, id := range []int{-1, 0, 'x', 256, 300} {
			mustValid(t, none, id, 'y', false)
			mustValid(t, none, 'y', id, false)
			mustFirst(t, none, []int{id, 'y'}, 0, true)
		}
		mustFirst(t, none, nil, 0, false)
	}
}

// P14.2: the first one that isn't there, isn't alone, or may not stand behind the one ahead of it; none is looked at behind it.
func TestFirst(t *testing.T) {
	v := sample(t)
	for _, x := range []struct {
		ids   []int
		place int
		bad   bool
	}{
		{nil, 0, false},
		{[]int{'a'}, 0, false},
		{[]int{300}, 0, false},
		{[]int{257}, 0, true},
		{[]int{-1}, 0, true},
		{[]int{'x', 257}, 1, true},
		{[]int{'a', 'b'}, 1, true},
		{[]int{'b', 'a', 'a', 'b', -1}, 3, true},
		{[]int{'b', 'a', -1, 'a', 'b'}, 2, true},
		{[]int{300, 260, 256, 257, 'a', 'b'}, 3, true},
		{[]int{'a', 300, 'b', api.MaxId, 262}, 0, false},
		{[]int{'a', '1', '{'}, 2, true},
		{[]int{'a', 261, '1', 'a'}, 0, false},
		{[]int{'<', '|', '<', 259}, 3, true}, // it is cut within 259
	} {
		mustFirst(t, v, x.ids, x.place, x.bad)
	}
}

// P14.2: however many they are: no limit is named.
func TestFirstOfMany(t *testing.T) {
	v := sample(t)
	ids := slices.Repeat([]int{256, 300, 'b', 'a', '1'}, 40000)
	mustFirst(t, v, ids, 0, false)
	mustFirst(t, v, append(ids, 263), len(ids), true)
	ids[150002] = 257
	mustFirst(t, v, ids, 150002, true)
}

// P14.2, P14.3, P2: of random vocabularies: two may, just where they are made anew; the first offence is that of making them anew.
func TestRandomVocabs(t *testing.T) {
	for seed := range int64(80) {
		r := rand.New(rand.NewSource(seed))
		v := mustNew(t, randomSpec(r))
		ids := append(few(v.Table()), '1', '<')
		for _, x := range v.Spec().Specials {
			ids = append(ids, x.Id)
		}
		for _, a := range ids {
			for _, b := range ids {
				mustValid(t, v, a, b, isValid(v, a, b))
			}
		}
		for range 60 {
			row := randomRow(r, v, ids)
			place, bad := offence(v, row)
			mustFirst(t, v, row, place, bad)
			mustFollow(t, v, row)
		}
	}
}

// mustFollow holds P14.3 at tokens, and at what is made of their items: they are that just where each is alone, and each two may.
func mustFollow(t *testing.T, v *vocab.Vocab, row []int) {
	t.Helper()
	items, _, e := v.Items(row...)
	if e != api.OK {
		return
	}
	made := encode.Made(v, items...)
	mustFirst(t, v, made, 0, false)
	for _, ids := range [][]int{row, made} {
		all := true
		for i, id := range ids {
			all = all && v.Alone(id) && (i == 0 || spine.Valid(v, ids[i-1], id))
		}
		if all != slices.Equal(ids, made) {
			t.Fatalf("%v: %v: %v, but %v is made", v.Spec(), ids, all, made)
		}
	}
}

// randomSpec is merges of few letters, up to three special tokens, and a few classes and joins.
func randomSpec(r *rand.Rand) api.Spec {
	x, _, _ := token.New()
	for range 3 + r.Intn(15) {
		pick := func() int {
			if n := x.Len() - 256; n > 0 && r.Intn(2) > 0 {
				return 256 + r.Intn(n)
			}
			return int("abc1<"[r.Intn(5)])
		}
		x.Add(api.Merge{A: pick(), B: pick()})
	}
	s := api.Spec{Merges: x.Merges()}
	for i, text := range []string{"<", "<a", "b"}[:r.Intn(4)] {
		s.Specials = append(s.Specials, api.Special{Id: 900 - 10*i - r.Intn(9), Text: text})
	}
	for range r.Intn(3) {
		lo := '0' + r.Intn(60)
		s.Classes = append(s.Classes, api.Class{Lo: lo, Hi: lo + r.Intn(60), N: r.Intn(3)})
	}
	for range r.Intn(3) {
		s.Joins = append(s.Joins, api.Join{A: r.Intn(3), B: r.Intn(3)})
	}
	return s
}

// randomRow is up to 9 ids: mostly what is made of some, with one more, so that some offend late.
func randomRow(r *rand.Rand, v *vocab.Vocab, ids []int) []int {
	var row []int
	for range r.Intn(8) {
		row = append(row, ids[r.Intn(len(ids))])
	}
	if r.Intn(3) > 0 {
		items, _, _ := v.Items(row...)
		row = encode.Made(v, items...)
	}
	if r.Intn(9) == 0 {
		return append(row, -1)
	}
	return append(row, ids[r.Intn(len(ids))])
}

// P14.1, P14.2: a vocabulary of as many tokens as there may be, of long ones, held against making anew.
func TestFullVocab(t *testing.T) {
	r := rand.New(rand.NewSource(14))
	x := randomTable(r, 6, 1500)
	for x.Len() < api.MaxVocab {
		x.Add(api.Merge{A: 'a' + r.Intn(6), B: r.Intn(x.Len())})
	}
	v := mustNew(t, api.Spec{Merges: x.Merges()})
	var alone []int
	for id := range api.MaxVocab {
		mustAlone(t, x, id, isAlone(x, id))
		if v.Alone(id) {
			alone = append(alone, id)
		}
	}
	for range 3000 {
		a, b := alone[r.Intn(len(alone))], alone[r.Intn(len(alone))]
		mustValid(t, v, a, b, isValid(v, a, b))
	}
	made, _ := encode.Plain(v, strings.Repeat("abcfedbeadcafe", 280))
	mustFirst(t, v, made, 0, false)
}

// P14.1, with the rules: nothing that is handed in changes, its spare room neither; what is asked again is the same.
func TestHandedInStays(t *testing.T) {
	v := sample(t)
	merges := v.Table().Merges()
	room := []int{'b', 256, 300, 'x', 'y'}
	before := slices.Clone(room)
	for range 2 {
		mustFirst(t, v, room[:3], 0, false)
		mustStep(t, v.Table(), 260, 260, 3)
		mustAlone(t, v.Table(), 260, true)
		mustValid(t, v, 256, 'b', false)
	}
	if !slices.Equal(room, before) || !slices.Equal(v.Table().Merges(), merges) {
		t.Errorf("what was handed in: %v, %v", room, v.Table().Merges())
	}
}

// P14.2: a vocabulary is as it was loaded, though its table was handed out and has grown; a table is as it is now.
func TestGrownTable(t *testing.T) {
	v := mustNew(t, api.Spec{Merges: []api.Merge{{A: 'a', B: 'b'}}, Specials: []api.Special{{Id: 257, Text: "<"}}})
	x := v.Table()
	if _, e := x.Add(api.Merge{A: 'b', B: 'c'}); e != api.OK {
		t.Fatalf("Add: %d", e)
	}
	mustWalk(t, x, 'b', 'c', math.MaxInt, false)
	mustValid(t, v, 'b', 'c', true)
	mustValid(t, v, 257, 'c', true)
	mustValid(t, v, 'a', 257, true)
	mustFirst(t, v, []int{'b', 'c', 257, 'b', 'c', 'a', 'b'}, 6, true)
}

// P14.2: many may ask one vocabulary at once.
func TestManyAtOnce(t *testing.T) {
	v := sample(t)
	var all sync.WaitGroup
	for range 8 {
		all.Go(func() {
			for range 50 {
				k, bad := spine.First(v, 'b', 'a', 300, 'a', 'b')
				if k != 4 || !bad || spine.Valid(v, 256, 'b') || !spine.Alone(v.Table(), 260) {
					t.Errorf("First: %d, %v", k, bad)
				}
			}
		})
	}
	all.Wait()
}
