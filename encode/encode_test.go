package encode_test

import (
	"math"
	"math/rand"
	"slices"
	"strings"
	"testing"

	"ligature/api"
	"ligature/chain"
	"ligature/encode"
	"ligature/vocab"
)

func mustNew(t *testing.T, s api.Spec) *vocab.Vocab {
	t.Helper()
	v, n, e := vocab.New(s)
	if e != api.OK {
		t.Fatalf("New of %v: %d, %d", s, n, e)
	}
	return v
}

// sample is tokens 256 ab, 257 ab1, 258 bb, 259 aa; marks < (-1), <| (-2), ab> (-3); letters of class 0, digits of class 1, and what stands behind z of class 2; no cut between class 1 and class 2 behind it.
func sample(t *testing.T) *vocab.Vocab {
	t.Helper()
	return mustNew(t, api.Spec{
		Merges:   []api.Merge{{A: 'a', B: 'b'}, {A: 256, B: '1'}, {A: 'b', B: 'b'}, {A: 'a', B: 'a'}},
		Specials: []api.Special{{Id: 300, Text: "<"}, {Id: 260, Text: "<|"}, {Id: api.MaxId, Text: "ab>"}},
		Classes:  []api.Class{{Lo: '0', Hi: '9', N: 1}, {Lo: '{', Hi: 255, N: 2}},
		Joins:    []api.Join{{A: 1, B: 2}},
	})
}

// model is the pieces of right items, and what is made of them, by the words of the document: runs of bytes between marks, cut by layer 8, made into tokens by layer 5.
func model(v *vocab.Vocab, items []int) (pieces [][]int, ids []int) {
	var run []byte
	flush := func() {
		for _, s := range v.Bounds().Pieces(string(run)) {
			pieces = append(pieces, itemsOf(s))
			ids = append(ids, chain.Encode(v.Table(), s)...)
		}
		run = nil
	}
	for _, item := range items {
		if item >= 0 {
			run = append(run, byte(item))
			continue
		}
		flush()
		pieces = append(pieces, []int{item})
		ids = append(ids, v.Spec().Specials[-1-item].Id)
	}
	flush()
	return pieces, ids
}

func itemsOf(text string) []int {
	var l []int
	for _, b := range []byte(text) {
		l = append(l, int(b))
	}
	return l
}

// mustMake holds all that is told of right items against what is wanted.
func mustMake(t *testing.T, v *vocab.Vocab, items []int, pieces [][]int, ids []int) {
	t.Helper()
	if got := encode.Pieces(v, items...); !slices.EqualFunc(got, pieces, slices.Equal) {
		t.Fatalf("the pieces of %v: %v: want %v", items, got, pieces)
	}
	if got := encode.Made(v, items...); !slices.Equal(got, ids) {
		t.Fatalf("made of %v: %v: want %v", items, got, ids)
	}
	many, want := len(items), api.OK
	if many > api.MaxInput {
		ids, many, want = nil, 0, api.ErrLong
	}
	if got, n, e := encode.Items(v, items...); !slices.Equal(got, ids) || n != many || e != want {
		t.Fatalf("Items: %v, %d, %d: want %v, %d, %d", got, n, e, ids, many, want)
	}
}

// mustFail holds what is told of wrong items against the document.
func mustFail(t *testing.T, v *vocab.Vocab, items []int, place int, want api.Errno) {
	t.Helper()
	if ids, n, e := encode.Items(v, items...); len(ids) != 0 || n != place || e != want {
		t.Errorf("Items of %d: %v, %d, %d: want %d, %d", len(items), ids, n, e, place, want)
	}
	if l, ids := encode.Pieces(v, items...), encode.Made(v, items...); len(l) != 0 || len(ids) != 0 {
		t.Errorf("of %d wrong items: %v, %v", len(items), l, ids)
	}
}

// mustTell holds what Text and Plain tell of a text against what is wanted.
func mustTell(t *testing.T, v *vocab.Vocab, text string, ids, plain []int, want api.Errno) {
	t.Helper()
	if got, e := encode.Text(v, text); !slices.Equal(got, ids) || e != want {
		t.Fatalf("Text of %.60q: %v, %d: want %v, %d", text, got, e, ids, want)
	}
	if got, e := encode.Plain(v, text); !slices.Equal(got, plain) || e != want {
		t.Fatalf("Plain of %.60q: %v, %d: want %v, %d", text, got, e, plain, want)
	}
}

// P12.1: the chapter's example, and those of the whole that are of this layer.
func TestExamples(t *testing.T) {
	v := mustNew(t, api.Spec{Merges: []api.Merge{{A: 'a', B: 'b'}}, Specials: []api.Special{{Id: 300, Text: "<"}}})
	mustTell(t, v, "ab<a", []int{256, 300, 97}, []int{256, 60, 97}, api.OK)

	v = mustNew(t, api.Spec{Merges: []api.Merge{{A: 'a', B: 'b'}, {A: 256, B: 'c'}}})
	mustTell(t, v, "abcab", []int{257, 256}, []int{257, 256}, api.OK)

	v = mustNew(t, api.Spec{Merges: []api.Merge{{A: 'b', B: 'c'}, {A: 'a', B: 'b'}, {A: 257, B: 'c'}}})
	mustTell(t, v, "abc", []int{'a', 256}, []int{'a', 256}, api.OK)

	v = mustNew(t, api.Spec{Merges: []api.Merge{{A: 'a', B: '1'}}, Classes: []api.Class{{Lo: 'a', Hi: 'z', N: 1}, {Lo: '0', Hi: '9', N: 2}}})
	mustTell(t, v, "a1", []int{'a', '1'}, []int{'a', '1'}, api.OK)
	mustMake(t, v, []int{'a', '1'}, [][]int{{'a'}, {'1'}}, []int{'a', '1'})
}

// P12.1: texts, with their special tokens and without.
func TestTexts(t *testing.T) {
	v := sample(t)
	for _, x := range []struct {
		text       string
		ids, plain []int
	}{
		{"", nil, nil},
		{"abb", []int{256, 'b'}, []int{256, 'b'}},
		{"ab1", []int{256, '1'}, []int{256, '1'}},
		{"<|<", []int{260, 300}, []int{'<', '|', '<'}},
		{"<<|", []int{300, 260}, []int{'<', '<', '|'}},
		{"a<b", []int{'a', 300, 'b'}, []int{'a', '<', 'b'}},
		{"aab>b", []int{'a', api.MaxId, 'b'}, []int{'a', 256, '>', 'b'}},
		{"bbb", []int{258, 'b'}, []int{258, 'b'}},
		{"\x00\xff", []int{0, 255}, []int{0, 255}},
	} {
		mustTell(t, v, x.text, x.ids, x.plain, api.OK)
	}
}

// P12.1: runs of bytes are cut; each mark is a piece, and parts what stands beside it.
func TestPieces(t *testing.T) {
	v := sample(t)
	mustMake(t, v, nil, nil, nil)
	mustMake(t, v, []int{-3}, [][]int{{-3}}, []int{api.MaxId})
	mustMake(t, v, []int{-1, -1, -2}, [][]int{{-1}, {-1}, {-2}}, []int{300, 300, 260})
	mustMake(t, v, []int{'a', -1, 'b', 'b', -2}, [][]int{{'a'}, {-1}, {'b', 'b'}, {-2}}, []int{'a', 300, 258, 260})
	mustMake(t, v, []int{'a', 'b', '1'}, [][]int{{'a', 'b'}, {'1'}}, []int{256, '1'})
	mustMake(t, v, []int{'1', 255, '1'}, [][]int{{'1', 255}, {'1'}}, []int{'1', 255, '1'})
	mustMake(t, v, []int{255, 'a', 'a', 'a'}, [][]int{{255}, {'a', 'a', 'a'}}, []int{255, 259, 'a'})
	mustMake(t, v, itemsOf("<|ab>"), [][]int{{'<'}, {'|'}, {'a', 'b', '>'}}, []int{'<', '|', 256, '>'})

	bare := mustNew(t, api.Spec{})
	mustMake(t, bare, itemsOf("a 1\xff\x00"), [][]int{itemsOf("a 1\xff\x00")}, itemsOf("a 1\xff\x00"))
}

// P12.1: the place of the first item that isn't there.
func TestWrongItems(t *testing.T) {
	v := sample(t)
	for _, wrong := range []int{256, 257, 300, api.MaxId, math.MaxInt, -4, -33, math.MinInt} {
		mustFail(t, v, []int{wrong}, 0, api.ErrForm)
		mustFail(t, v, []int{0, 255, -3, wrong, 'a', -4}, 3, api.ErrForm)
	}
	mustFail(t, mustNew(t, api.Spec{}), []int{'a', -1}, 1, api.ErrForm)

	last := append(slices.Repeat([]int{'a'}, api.MaxInput-1), -4)
	mustFail(t, v, last, api.MaxInput-1, api.ErrForm)
}

// P12.1: of no vocabulary, whatever else is wrong.
func TestNil(t *testing.T) {
	mustFail(t, nil, nil, 0, api.ErrArg)
	mustFail(t, nil, []int{'a'}, 0, api.ErrArg)
	mustFail(t, nil, []int{'a', -1, 256}, 0, api.ErrArg)
	mustFail(t, nil, make([]int, api.MaxInput+1), 0, api.ErrArg)
	for _, text := range []string{"", "a", strings.Repeat("a", api.MaxInput+1)} {
		mustTell(t, nil, text, nil, nil, api.ErrArg)
	}
	encode.Text(&vocab.Vocab{}, "a") // none that New made: only that nothing panics
	encode.Plain(&vocab.Vocab{}, "a")
	encode.Items(&vocab.Vocab{}, 'a', -1)
	encode.Pieces(&vocab.Vocab{}, 'a', 'b')
	encode.Made(&vocab.Vocab{}, 'a', 'b')
}

// P12.1: as many as may be, and one more; Pieces and Made take any number.
func TestLimits(t *testing.T) {
	v := sample(t)
	for _, n := range []int{api.MaxInput, api.MaxInput + 1, 4 * api.MaxInput} {
		items := slices.Repeat([]int{'a'}, n)
		ids := append(slices.Repeat([]int{259}, n/2), items[n-n%2:]...)
		mustMake(t, v, items, [][]int{items}, ids)
		marks := slices.Repeat([]int{-2}, n)
		mustMake(t, v, marks, slices.Repeat([][]int{{-2}}, n), slices.Repeat([]int{260}, n))
	}
	tooMany := append(make([]int, api.MaxInput), -4)
	mustFail(t, v, tooMany, 0, api.ErrLong) // ahead of the item that isn't there

	n := api.MaxInput
	mustTell(t, v, strings.Repeat("bb", n/2), slices.Repeat([]int{258}, n/2), slices.Repeat([]int{258}, n/2), api.OK)
	mustTell(t, v, strings.Repeat("<", n), slices.Repeat([]int{300}, n), slices.Repeat([]int{'<'}, n), api.OK)
	mustTell(t, v, strings.Repeat("b", n+1), nil, nil, api.ErrLong)
	mustTell(t, v, strings.Repeat("<|", n/2)+"<", nil, nil, api.ErrLong) // its bytes count, not its items
}

// P12.1, P12.2: whatever right items are, what is told of them is what the document's words say; the items of what is made are these, rendered the text.
func TestRandomItems(t *testing.T) {
	r := rand.New(rand.NewSource(12))
	for range 400 {
		v := mustNew(t, randomSpec(r))
		for range 20 {
			items := randomItems(r, v.Marks().Len())
			pieces, ids := model(v, items)
			mustMake(t, v, items, pieces, ids)
			if back, _, _ := v.Items(ids...); !slices.Equal(back, items) {
				t.Fatalf("%v: the items of %v: %v: want %v", v.Spec(), ids, back, items)
			}
			text, _ := v.Marks().Render(items...)
			mustTellText(t, v, text)
		}
	}
}

// mustTellText holds what is made of a text against the document: the items that it is parsed to, or its bytes; and rendered it is the text.
func mustTellText(t *testing.T, v *vocab.Vocab, text string) {
	t.Helper()
	_, ids := model(v, v.Marks().Parse(text))
	_, plain := model(v, itemsOf(text))
	mustTell(t, v, text, ids, plain, api.OK)
	for _, made := range [][]int{ids, plain} {
		items, _, _ := v.Items(made...)
		if back, ok := v.Marks().Render(items...); !ok || back != text {
			t.Fatalf("%v: %v of %q: rendered %q", v.Spec(), made, text, back)
		}
	}
}

const letters = "abc1<>"

// randomSpec is some merges of few letters, up to three special tokens, and a few classes and joins.
func randomSpec(r *rand.Rand) api.Spec {
	var s api.Spec
	there := itemsOf(letters)
	for range r.Intn(14) {
		m := api.Merge{A: there[r.Intn(len(there))], B: there[r.Intn(len(there))]}
		more := api.Spec{Merges: append(s.Merges, m)}
		if v, _, e := vocab.New(more); e == api.OK {
			s.Merges, there = more.Merges, append(there, v.Size()-1)
		}
	}
	for i, text := range []string{"<", "<a", "b>"}[:r.Intn(4)] {
		s.Specials = append(s.Specials, api.Special{Id: 900 - 10*i - r.Intn(9), Text: text})
	}
	for range r.Intn(3) {
		lo := '0' + r.Intn(60)
		s.Classes = append(s.Classes, api.Class{Lo: lo, Hi: lo + r.Intn(60), N: r.Intn(3)})
	}
	for range r.Intn(3) {
		s.Joins = append(s.Joins, api.Join{A: r.Intn(3), B: r.Intn(3)})
	}
	return s
}

// randomItems is up to 24 items of few letters, and of marks.
func randomItems(r *rand.Rand, marks int) []int {
	var l []int
	for range r.Intn(25) {
		if i := r.Intn(len(letters) + marks); i < len(letters) {
			l = append(l, int(letters[i]))
		} else {
			l = append(l, -1-(i-len(letters)))
		}
	}
	return l
}

// P12.1, with the rules: what is handed in stays, its spare room too; what is answered is new memory, list by list.
func TestNewMemory(t *testing.T) {
	v := sample(t)
	room := []int{'a', 'b', -1, 'b', 'b', 'x', 'y'}
	before := slices.Clone(room)
	items := room[:5]
	pieces := encode.Pieces(v, items...)
	made := encode.Made(v, items...)
	ids, _, _ := encode.Items(v, items...)
	for i := range pieces {
		clear(pieces[i])
		clear(append(pieces[i], 0)) // what stands behind it is none of its own
		for _, later := range pieces[i+1:] {
			if slices.Contains(later, 0) {
				t.Fatalf("%v: pieces share memory", pieces)
			}
		}
	}
	clear(append(made, 0, 0))
	clear(append(ids, 0, 0))
	if !slices.Equal(room, before) {
		t.Errorf("what was handed in: %v: want %v", room, before)
	}
	if got := encode.Made(v, items...); !slices.Equal(got, []int{256, 300, 258}) {
		t.Errorf("made again: %v", got)
	}
}

// P12.1: a vocabulary is as it was loaded, though its table was handed out and has grown.
func TestGrownTable(t *testing.T) {
	v := mustNew(t, api.Spec{Merges: []api.Merge{{A: 'a', B: 'b'}}})
	if _, e := v.Table().Add(api.Merge{A: 'c', B: 'c'}); e != api.OK {
		t.Fatalf("Add: %d", e)
	}
	mustTell(t, v, "abcc", []int{256, 'c', 'c'}, []int{256, 'c', 'c'}, api.OK)
}
