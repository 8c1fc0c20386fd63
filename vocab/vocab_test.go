package vocab_test

import (
	"math"
	"math/rand"
	"slices"
	"strconv"
	"strings"
	"sync"
	"testing"

	"ligature/api"
	"ligature/chain"
	"ligature/spec"
	"ligature/vocab"
)

func mustNew(t *testing.T, s api.Spec) *vocab.Vocab {
	t.Helper()
	v, n, e := vocab.New(s)
	if v == nil || n != 0 || e != api.OK {
		t.Fatalf("New of %v: %d, %d", s, n, e)
	}
	return v
}

func mustLoad(t *testing.T, lines ...string) *vocab.Vocab {
	t.Helper()
	v, n, e := vocab.Load(textOf(lines...))
	if v == nil || n != 0 || e != api.OK {
		t.Fatalf("Load of %q: %d, %d", lines, n, e)
	}
	return v
}

// textOf is lines, each ended.
func textOf(lines ...string) string {
	return strings.Join(lines, "\n") + "\n"
}

// mustFail holds New's answer of a spec that can't be against what is wanted.
func mustFail(t *testing.T, s api.Spec, place int, want api.Errno) {
	t.Helper()
	if v, n, e := vocab.New(s); v != nil || n != place || e != want {
		t.Errorf("New of %v: %v, %d, %d: want %d, %d", s, v != nil, n, e, place, want)
	}
}

// mustFailAt holds Load's answer of a text that can't be against what is wanted.
func mustFailAt(t *testing.T, text string, line int, want api.Errno) {
	t.Helper()
	if v, n, e := vocab.Load(text); v != nil || n != line || e != want {
		t.Errorf("Load of %.80q: %v, %d, %d: want %d, %d", text, v != nil, n, e, line, want)
	}
}

// mustItems holds the items of tokens against what is wanted.
func mustItems(t *testing.T, v *vocab.Vocab, ids []int, want []int, n int, e api.Errno) {
	t.Helper()
	items, many, why := v.Items(ids...)
	if !slices.Equal(items, want) || many != n || why != e {
		t.Errorf("the items of %v: %v, %d, %d: want %v, %d, %d", ids, items, many, why, want, n, e)
	}
}

// strange is numbers that are no token's, and those at edges.
func strange(size int) []int {
	return []int{math.MinInt, -1000, -33, -2, -1, 0, 255, 256, size - 1, size, size + 1, 999, 1000, api.MaxId - 1, api.MaxId, api.MaxId + 1, math.MaxInt}
}

// mustBe holds all that a vocabulary tells against the document.
func mustBe(t *testing.T, v *vocab.Vocab, m *model) {
	t.Helper()
	size := len(m.texts)
	if v.Size() != size || !slices.Equal(v.Ids(), m.ids()) || !spec.Same(v.Spec(), m.Spec) {
		t.Fatalf("%d, %v, %v: want %d, %v, %v", v.Size(), v.Ids(), v.Spec(), size, m.ids(), m.Spec)
	}
	for _, id := range append(strange(size), m.ids()...) {
		if v.Has(id) != m.has(id) {
			t.Fatalf("%v: has %d: %v", m.Spec, id, v.Has(id))
		}
		if v.Alone(id) != m.alone(id) {
			t.Fatalf("%v: %d is alone: %v", m.Spec, id, v.Alone(id))
		}
		want, n, e := m.items(id)
		mustItems(t, v, []int{id}, want, n, e)
	}
	mustHaveParts(t, v, m)
}

// mustHaveParts holds a vocabulary's table, bounds and marks against the document.
func mustHaveParts(t *testing.T, v *vocab.Vocab, m *model) {
	t.Helper()
	if v.Table().Len() != len(m.texts) || !slices.Equal(v.Table().Merges(), m.merges) {
		t.Fatalf("the table of %v: %v: want %v", m.Spec, v.Table().Merges(), m.merges)
	}
	if !slices.Equal(v.Marks().All(), m.Specials) {
		t.Fatalf("the marks of %v: %v", m.Spec, v.Marks().All())
	}
	for a := range 256 {
		if got := v.Bounds().Class(byte(a)); got != m.class(byte(a)) {
			t.Fatalf("the class of %d by %v: %d", a, m.Classes, got)
		}
		two := string([]byte{byte(a), 'a'})
		if v.Bounds().Whole(two) != m.whole(two) {
			t.Fatalf("%q by %v, %v: whole: %v", two, m.Classes, m.Joins, v.Bounds().Whole(two))
		}
	}
}

// P10.1, P10.2: the chapter's examples.
func TestExamples(t *testing.T) {
	v := mustLoad(t, "vocab merges", "merge 97 98", "special 257 3c")
	want := make([]int, 258)
	for id := range want {
		want[id] = id
	}
	if !slices.Equal(v.Ids(), want) || v.Size() != 257 {
		t.Errorf("%v, %d", v.Ids(), v.Size())
	}
	mustFailAt(t, textOf("vocab merges", "merge 97 98", "special 256 3c"), 3, api.ErrId)
}

// P10.1 to P10.3: whatever a right spec is, the vocabulary is that of the document's words, or the error is; of its text too.
func TestRandomSpecs(t *testing.T) {
	r := rand.New(rand.NewSource(10))
	failed := map[api.Errno]int{}
	for i := range 1200 {
		s := randomSpec(r, 9*(i%2))
		text, e := spec.Print(s)
		if e != api.OK {
			t.Fatalf("Print of %v: %d", s, e)
		}
		m, part, place, why := modelOf(s)
		failed[why]++
		if why != api.OK {
			mustFail(t, s, place, why)
			mustFailAt(t, text, 2+place+part*(len(s.Merges)+len(s.Tokens)), why)
			continue
		}
		v := mustNew(t, s)
		mustBe(t, v, m)
		again, n, e := vocab.Load(text)
		if again == nil || n != 0 || e != api.OK || !spec.Same(again.Spec(), s) {
			t.Fatalf("Load of %q: %d, %d", text, n, e)
		}
		mustItemsOfMany(t, r, v, m)
	}
	for _, e := range []api.Errno{api.OK, api.ErrForm, api.ErrId, api.ErrTwice} {
		if failed[e] < 20 {
			t.Errorf("only %d specs with error %d", failed[e], e)
		}
	}
}

// mustItemsOfMany holds the items of many tokens, some of which may not be there, against the document.
func mustItemsOfMany(t *testing.T, r *rand.Rand, v *vocab.Vocab, m *model) {
	t.Helper()
	all := m.ids()
	for range 5 {
		var ids []int
		for range r.Intn(20) {
			ids = append(ids, all[r.Intn(len(all))])
		}
		for range r.Intn(3) {
			ids = slices.Insert(ids, r.Intn(len(ids)+1), strange(len(m.texts))[r.Intn(17)])
		}
		want, n, e := m.items(ids...)
		mustItems(t, v, ids, want, n, e)
	}
}

// P10.1: a spec that isn't right is told ahead of all else, at 0.
func TestNotRight(t *testing.T) {
	twice := []api.Special{{Id: 300, Text: "<"}, {Id: 300, Text: "<"}}
	for _, s := range []api.Spec{
		{Ranked: true, Merges: []api.Merge{{A: 97, B: 98}}},
		{Tokens: []string{"ab"}},
		{Merges: []api.Merge{{A: 97, B: 98}, {A: -1, B: 98}}},
		{Merges: []api.Merge{{A: 97, B: 98}, {A: 97, B: 98}, {A: 97, B: 1000}}},
		{Merges: make([]api.Merge, 745)},
		{Ranked: true, Tokens: []string{"ab", "a"}},
		{Ranked: true, Tokens: []string{"xyz", strings.Repeat("a", 65)}},
		{Specials: []api.Special{{Id: 300, Text: "<"}, {Id: -1, Text: ">"}}},
		{Specials: []api.Special{{Id: 300, Text: "<"}, {Id: api.MaxId + 1, Text: ">"}}},
		{Specials: append(twice[:2:2], api.Special{Id: 301})},
		{Specials: make([]api.Special, 33)},
		{Specials: twice, Classes: []api.Class{{Lo: 2, Hi: 1, N: 1}}},
		{Classes: []api.Class{{Lo: 0, Hi: 256, N: 1}}},
		{Classes: []api.Class{{Lo: 0, Hi: 255, N: 16}}},
		{Classes: make([]api.Class, 65)},
		{Joins: []api.Join{{A: 0, B: 16}}},
		{Merges: []api.Merge{{A: 999, B: 999}}, Joins: []api.Join{{A: -1, B: 0}}},
	} {
		mustFail(t, s, 0, api.ErrArg)
	}
}

// P10.1: the table's errors, at the place of the merge.
func TestWrongMerges(t *testing.T) {
	double := []api.Merge{{A: 'a', B: 'a'}, {A: 256, B: 256}, {A: 257, B: 257}, {A: 258, B: 258}, {A: 259, B: 259}, {A: 260, B: 260}}
	mustBe(t, mustNew(t, api.Spec{Merges: double}), must(t, api.Spec{Merges: double}))
	mustFail(t, api.Spec{Merges: []api.Merge{{A: 256, B: 'a'}}}, 0, api.ErrId)
	mustFail(t, api.Spec{Merges: []api.Merge{{A: 'a', B: 'b'}, {A: 'a', B: 257}}}, 1, api.ErrId)
	mustFail(t, api.Spec{Merges: append(double, api.Merge{A: 261, B: 'a'})}, 6, api.ErrLong)
	mustFail(t, api.Spec{Merges: []api.Merge{{A: 'a', B: 'b'}, {A: 'c', B: 'd'}, {A: 'a', B: 'b'}}}, 2, api.ErrTwice)
	mustFail(t, api.Spec{Merges: []api.Merge{{A: 'b', B: 'c'}, {A: 'a', B: 'b'}, {A: 257, B: 'c'}, {A: 'a', B: 256}, {A: 999, B: 0}}}, 3, api.ErrTwice)
}

// must is the vocabulary that the document's words make of a spec.
func must(t *testing.T, s api.Spec) *model {
	t.Helper()
	m, _, place, e := modelOf(s)
	if e != api.OK {
		t.Fatalf("%v: %d, %d", s, place, e)
	}
	return m
}

// P10.1: the table's errors, at the place of the token.
func TestWrongTokens(t *testing.T) {
	for place, tokens := range [][]string{
		{"xyz", "ab"},
		{"ab", "abcd"},
		{"ab", "cd", "abce", "abcd"},
	} {
		mustFail(t, api.Spec{Ranked: true, Tokens: tokens}, place, api.ErrForm)
	}
	mustFail(t, api.Spec{Ranked: true, Tokens: []string{"ab", "ab"}}, 1, api.ErrForm) // just one is made of it
	s := api.Spec{Ranked: true, Tokens: []string{"bc", "ab", "abc", "cd"}}
	mustBe(t, mustNew(t, s), must(t, s))
}

// P10.1: the table's error is told ahead of the marks', these ahead of an Id that is an ordinary token's, wherever they stand.
func TestOrderOfErrors(t *testing.T) {
	bad := api.Merge{A: 'a', B: 'b'}
	specials := []api.Special{{Id: 5, Text: "<"}, {Id: 300, Text: ">"}, {Id: 301, Text: ">"}}
	s := api.Spec{Merges: []api.Merge{bad, {A: 'c', B: 'd'}, bad}, Specials: specials}
	mustFail(t, s, 2, api.ErrTwice)
	s.Merges = s.Merges[:2]
	mustFail(t, s, 2, api.ErrTwice)
	s.Specials = []api.Special{{Id: 5, Text: "<"}, {Id: 5, Text: ">"}}
	mustFail(t, s, 1, api.ErrTwice)
	s.Specials = specials[:2]
	mustFail(t, s, 0, api.ErrId)
	s.Specials = []api.Special{{Id: 300, Text: "<"}, {Id: 258, Text: ">"}, {Id: 257, Text: "|"}, {Id: 0, Text: "||"}}
	mustFail(t, s, 2, api.ErrId)
	s.Specials = s.Specials[:2]
	mustBe(t, mustNew(t, s), must(t, s))
	mustFail(t, api.Spec{Ranked: true, Tokens: []string{"ab", "xyz"}, Specials: specials}, 1, api.ErrForm)
}

// P10.1: a text's error is Parse's, with its line.
func TestLoadOfNoSpec(t *testing.T) {
	mustFailAt(t, "", 1, api.ErrForm)
	mustFailAt(t, "vocab", 1, api.ErrForm)
	mustFailAt(t, "vocab merges", 1, api.ErrForm)
	mustFailAt(t, textOf("vocab merges", "merge 97 98", "merge 97"), 3, api.ErrForm)
	mustFailAt(t, textOf("vocab merges", "merge 97 98", "merge 97 98", "token 6162"), 4, api.ErrForm)
	mustFailAt(t, textOf("vocab ranks", "token 78797a", "special 0 3c", "join 0 16"), 4, api.ErrForm)
	mustFailAt(t, textOf("vocab merges", "special 300 3c", "class 2 1 0"), 3, api.ErrForm)
	mustFailAt(t, strings.Repeat("x", 60001), 0, api.ErrLong)
	mustFailAt(t, strings.Repeat("x", 60000), 1, api.ErrForm)
}

// P10.1: another error's line is that of the merge, the token or the special token.
func TestLoadOfWrong(t *testing.T) {
	mustFailAt(t, textOf("vocab merges", "merge 256 97"), 2, api.ErrId)
	mustFailAt(t, textOf("vocab merges", "merge 97 98", "merge 97 98", "special 0 3c"), 3, api.ErrTwice)
	mustFailAt(t, textOf("vocab ranks", "token 6162", "token 616263", "token 78797a", "class 0 1 1"), 4, api.ErrForm)
	mustFailAt(t, textOf("vocab ranks", "token 6162", "special 5 3c", "special 300 3c", "special 301 3c"), 4, api.ErrTwice)
	mustFailAt(t, textOf("vocab merges", "special 255 3c"), 2, api.ErrId)
	mustFailAt(t, textOf("vocab merges", "merge 97 98", "merge 99 100", "special 258 3c", "special 257 3e", "class 97 98 1"), 5, api.ErrId)
	mustFailAt(t, textOf("vocab ranks", "token 6162", "token 6364", "special 257 3c"), 4, api.ErrId)
	mustFailAt(t, textOf("vocab merges", "special 300 3c", "special 301 3e", "special 300 7c"), 4, api.ErrTwice)
}

// full is a right spec with as many as may be of all.
func full() api.Spec {
	var s api.Spec
	for i := range 744 {
		s.Merges = append(s.Merges, api.Merge{A: i / 250, B: i % 250})
	}
	for i := range 32 {
		s.Specials = append(s.Specials, api.Special{Id: api.MaxId - i, Text: strings.Repeat("x", 64-i)})
	}
	s.Specials[7].Id = 1000
	for i := range 64 {
		s.Classes = append(s.Classes, api.Class{Lo: i, Hi: 255 - i, N: i % 16})
		s.Joins = append(s.Joins, api.Join{A: i % 16, B: i / 4})
	}
	return s
}

// P10.1, P10.2: as few as may be, and as many.
func TestEdges(t *testing.T) {
	for _, s := range []api.Spec{{}, {Ranked: true}, full()} {
		mustBe(t, mustNew(t, s), must(t, s))
	}
	v := mustLoad(t, "vocab merges")
	if v.Size() != 256 || v.Has(256) || !v.Has(255) {
		t.Errorf("of bytes alone: %d", v.Size())
	}
	s := full()
	s.Specials[7].Id = 999
	mustFail(t, s, 7, api.ErrId)
	s = full()
	s.Specials[31].Text = "xx"
	s.Specials[30].Text = "xx"
	mustFail(t, s, 31, api.ErrTwice)
	s = full()
	s.Merges[743] = s.Merges[0]
	mustFail(t, s, 743, api.ErrTwice)
}

// P10.1: a right spec whose text would be too long to be loaded makes a vocabulary all the same.
func TestLongSpec(t *testing.T) {
	s := api.Spec{Ranked: true}
	for _, letter := range []string{"a", "b"} {
		for n := 2; n <= 63; n++ {
			s.Tokens = append(s.Tokens, strings.Repeat(letter, n))
		}
		for b := range 256 {
			s.Tokens = append(s.Tokens, strings.Repeat(letter, 63)+string([]byte{byte(b)}))
		}
	}
	if text, e := spec.Print(s); text != "" || e != api.ErrLong {
		t.Fatalf("Print: %d", e)
	}
	mustBe(t, mustNew(t, s), must(t, s))
}

// P10.2: items of one token behind the other; the first one that isn't there is told.
func TestItems(t *testing.T) {
	v := mustLoad(t, "vocab merges", "merge 97 98", "merge 256 99", "special 900 6162", "special 258 3c3c3c", "special 1073741824 00")
	mustItems(t, v, nil, nil, 0, api.OK)
	mustItems(t, v, []int{257, 256, 'a', 0, 255}, []int{'a', 'b', 'c', 'a', 'b', 'a', 0, 255}, 5, api.OK)
	mustItems(t, v, []int{900, 258, 1 << 30, 258, 256}, []int{-1, -2, -3, -2, 'a', 'b'}, 5, api.OK)
	mustItems(t, v, []int{259}, nil, 0, api.ErrId)
	mustItems(t, v, []int{257, 900, -1, 259}, nil, 2, api.ErrId)
	mustItems(t, v, []int{'a', math.MaxInt}, nil, 1, api.ErrId)
	mustItems(t, v, []int{math.MinInt, 'a'}, nil, 0, api.ErrId)
	many := slices.Repeat([]int{257}, 5000) // no limit is named
	mustItems(t, v, many, slices.Repeat([]int{'a', 'b', 'c'}, 5000), 5000, api.OK)
	mustItems(t, v, append(many, 259), nil, 5000, api.ErrId)
}

// P10.3: a token is alone, if it is made of its bytes, and these are of one piece; a special one is.
func TestAlone(t *testing.T) {
	merges := []string{"vocab merges", "merge 98 99", "merge 97 98", "merge 257 99", "merge 97 49", "merge 49 97", "special 300 613161"}
	mustAlone(t, mustLoad(t, merges...), []int{0, 97, 255, 256, 257, 259, 260, 300}, []int{258})
	cut := append(slices.Clone(merges), "class 48 57 1")
	mustAlone(t, mustLoad(t, cut...), []int{49, 97, 256, 257, 300}, []int{258, 259, 260})
	joined := append(slices.Clone(cut), "join 0 1")
	mustAlone(t, mustLoad(t, joined...), []int{256, 257, 259, 300}, []int{258, 260})
	all := append(slices.Clone(joined), "join 1 0")
	mustAlone(t, mustLoad(t, all...), []int{256, 257, 259, 260, 300}, []int{258})
}

// mustAlone holds which tokens are alone against what is wanted; no others are.
func mustAlone(t *testing.T, v *vocab.Vocab, yes, no []int) {
	t.Helper()
	for _, id := range yes {
		if !v.Alone(id) {
			t.Errorf("%d isn't alone", id)
		}
	}
	for _, id := range append(no, -1, -2, 261, 299, 301, 1000, math.MaxInt, math.MinInt) {
		if v.Alone(id) {
			t.Errorf("%d is alone", id)
		}
	}
}

// P10.3: each call of Items and of Alone counts, whatever it answers; no other does; of each vocabulary they are its own.
func TestUses(t *testing.T) {
	v := mustLoad(t, "vocab merges", "merge 97 98", "special 300 3c")
	other := mustLoad(t, "vocab merges")
	uses := 0
	for name, call := range map[string]func(){
		"Alone":           func() { v.Alone(256) },
		"Alone of none":   func() { v.Alone(-1) },
		"Alone of a mark": func() { v.Alone(300) },
		"Items":           func() { v.Items(256, 300, 256) },
		"Items of none":   func() { v.Items() },
		"Items with none": func() { v.Items(256, 299) },
	} {
		call()
		if uses++; v.Uses() != uses {
			t.Errorf("behind %s: %d: want %d", name, v.Uses(), uses)
		}
	}
	v.Spec()
	v.Table()
	v.Bounds()
	v.Marks()
	v.Size()
	v.Has(256)
	v.Ids()
	v.Uses()
	if v.Uses() != uses || other.Uses() != 0 {
		t.Errorf("%d, %d: want %d, 0", v.Uses(), other.Uses(), uses)
	}
}

// P10.3: which tokens are alone, and how often it was used, is told rightly to many at once.
func TestManyAtOnce(t *testing.T) {
	v := mustLoad(t, "vocab merges", "merge 98 99", "merge 97 98", "merge 257 99")
	var all sync.WaitGroup
	for range 50 {
		all.Go(func() {
			for range 20 {
				if v.Alone(258) || !v.Alone(257) {
					t.Error("Alone")
				}
				if items, n, e := v.Items(258); !slices.Equal(items, []int{'a', 'b', 'c'}) || n != 1 || e != api.OK {
					t.Errorf("Items: %v, %d, %d", items, n, e)
				}
			}
		})
	}
	all.Wait()
	if v.Uses() != 3000 {
		t.Errorf("%d uses", v.Uses())
	}
}

// P10.3: of a nil vocabulary nothing, ErrArg, false.
func TestNil(t *testing.T) {
	var v *vocab.Vocab
	mustItems(t, v, nil, nil, 0, api.ErrArg)
	mustItems(t, v, []int{97}, nil, 0, api.ErrArg)
	mustItems(t, v, []int{97, -1}, nil, 0, api.ErrArg)
	if v.Table() != nil || v.Bounds() != nil || v.Marks() != nil {
		t.Error("its parts")
	}
	if v.Size() != 0 || len(v.Ids()) != 0 || v.Uses() != 0 || !spec.Same(v.Spec(), api.Spec{}) {
		t.Errorf("%d, %v, %d, %v", v.Size(), v.Ids(), v.Uses(), v.Spec())
	}
	for _, id := range strange(256) {
		if v.Has(id) || v.Alone(id) {
			t.Errorf("%d: %v, %v", id, v.Has(id), v.Alone(id))
		}
	}
}

// Rule 5: a vocabulary that no maker answered makes no call panic.
func TestMadeByNobody(t *testing.T) {
	v := &vocab.Vocab{}
	for _, id := range strange(256) {
		v.Has(id)
		v.Items(id)
		v.Alone(id)
	}
	v.Spec()
	v.Table()
	v.Bounds()
	v.Marks()
	v.Size()
	v.Ids()
	v.Uses()
}

// some is a spec with some of all, whose lists have spare room.
func some(ranked bool) api.Spec {
	s := api.Spec{Ranked: ranked, Specials: []api.Special{{Id: 300, Text: "<"}, {Id: 301, Text: ">"}, {Id: 0, Text: ""}}[:2]}
	s.Classes = []api.Class{{Lo: 48, Hi: 57, N: 1}, {Lo: 97, Hi: 122, N: 2}, {}}[:2]
	s.Joins = []api.Join{{A: 1, B: 2}, {A: 2, B: 1}, {}}[:2]
	if ranked {
		s.Tokens = []string{"ab", "abc", ""}[:2]
	} else {
		s.Merges = []api.Merge{{A: 97, B: 98}, {A: 256, B: 99}, {}}[:2]
	}
	return s
}

// spoil changes all that stands in a spec's lists, and behind them.
func spoil(s api.Spec) {
	fill(s.Merges, api.Merge{A: 1, B: 2})
	fill(s.Tokens, "spoilt")
	fill(s.Specials, api.Special{Id: 999, Text: "spoilt"})
	fill(s.Classes, api.Class{Lo: 0, Hi: 255, N: 9})
	fill(s.Joins, api.Join{A: 9, B: 9})
}

func fill[T any](l []T, x T) {
	l = l[:cap(l)]
	for i := range l {
		l[i] = x
	}
}

// whole is a list with its spare room.
func whole[T any](l []T) []T {
	return l[:cap(l)]
}

// Rule 4: what is handed in is neither changed nor kept; what is answered is new memory.
func TestNothingIsShared(t *testing.T) {
	for _, ranked := range []bool{false, true} {
		s := some(ranked)
		m := must(t, some(ranked))
		v := mustNew(t, s)
		same := spec.Same(s, m.Spec) && slices.Equal(whole(s.Specials), whole(m.Specials)) &&
			slices.Equal(whole(s.Merges), whole(m.Merges)) && slices.Equal(whole(s.Tokens), whole(m.Tokens)) &&
			slices.Equal(whole(s.Classes), whole(m.Classes)) && slices.Equal(whole(s.Joins), whole(m.Joins))
		if !same {
			t.Errorf("the spec is %v", s)
		}
		spoil(s)
		mustBe(t, v, m)
		spoil(v.Spec())
		mustBe(t, v, m)
		fill(v.Ids(), -5)
		fill(v.Marks().All(), api.Special{})
		items, _, _ := v.Items(256, 300)
		fill(items, -5)
		mustBe(t, v, m)
	}
	v := mustNew(t, some(false))
	room := []int{256, 300, -7, -8}
	v.Items(room[:2]...)
	if !slices.Equal(room, []int{256, 300, -7, -8}) {
		t.Errorf("the ids are %v", room)
	}
}

// Rule 4: whoever adds a token to the table that is handed out gives the vocabulary none.
func TestTableThatGrows(t *testing.T) {
	merges := []api.Merge{{A: 'a', B: 'b'}, {A: 'c', B: 'd'}, {A: 256, B: 257}}
	for _, asked := range []bool{false, true} {
		s := api.Spec{Merges: merges, Specials: []api.Special{{Id: 260, Text: "<"}}}
		m := must(t, s)
		v := mustNew(t, s)
		if asked && !v.Alone(258) {
			t.Error("258 isn't alone")
		}
		grown := v.Table()
		for _, x := range []api.Merge{{A: 'b', B: 'c'}, {A: 'a', B: 259}, {A: 258, B: 258}} {
			if _, e := grown.Add(x); e != api.OK {
				t.Fatalf("Add of %v: %d", x, e)
			}
		}
		mustBe(t, v, m)
		if got := chain.Encode(v.Table(), "abcd"); !slices.Equal(got, []int{258}) {
			t.Errorf("of abcd: %v", got)
		}
		if grown.Len() != 262 {
			t.Errorf("the grown table has %d", grown.Len())
		}
	}
}

// P10.1: the line of the last special token, in a text with as many lines as may be ahead of it.
func TestLastLine(t *testing.T) {
	lines := []string{"vocab merges"}
	for i := range 744 {
		lines = append(lines, "merge "+strconv.Itoa(i/250)+" "+strconv.Itoa(i%250))
	}
	for i := range 31 {
		lines = append(lines, "special "+strconv.Itoa(1000+i)+" 3c"+strings.Repeat("3e", i))
	}
	mustLoad(t, append(lines, "special 1031 3e")...)
	mustFailAt(t, textOf(append(lines, "special 999 3e")...), 777, api.ErrId)
	mustFailAt(t, textOf(append(lines, "special 1030 3e")...), 777, api.ErrTwice)
	mustFailAt(t, textOf(append(lines, "special 1031 3c")...), 777, api.ErrTwice)
	lines[745] = "merge 0 0"
	mustFailAt(t, textOf(lines...), 746, api.ErrForm) // no merge may be there
	lines = lines[:745]
	lines[744] = "merge 999 0"
	mustFailAt(t, textOf(lines...), 745, api.ErrId)
}
