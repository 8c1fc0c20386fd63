package chain_test

import (
	"math"
	"math/rand"
	"slices"
	"strings"
	"testing"

	"ligature/api"
	"ligature/chain"
	"ligature/token"
)

// byNumber is what is made of bytes by the document's first words: token by token, each from the beginning on.
func byNumber(merges []api.Merge, s string, below int) []int {
	row := bytesOf(s)
	for i, m := range merges {
		if id := api.Bytes + i; id < below {
			row = pass(row, m, id)
		}
	}
	return row
}

func bytesOf(s string) []int {
	var row []int
	for i := range len(s) {
		row = append(row, int(s[i]))
	}
	return row
}

func pass(row []int, m api.Merge, id int) []int {
	var made []int
	for i := 0; i < len(row); i++ {
		if i+1 < len(row) && row[i] == m.A && row[i+1] == m.B {
			made = append(made, id)
			i++
		} else {
			made = append(made, row[i])
		}
	}
	return made
}

// byLeast is the same by the document's other words: again and again the least two; and how often.
func byLeast(merges []api.Merge, s string) ([]int, int) {
	row := bytesOf(s)
	for steps := 0; ; steps++ {
		least, at := len(merges), -1
		for i := range max(len(row)-1, 0) {
			if n := slices.Index(merges, api.Merge{A: row[i], B: row[i+1]}); n >= 0 && n < least {
				least, at = n, i
			}
		}
		if at < 0 {
			return row, steps
		}
		row = slices.Replace(row, at, at+2, api.Bytes+least)
	}
}

func tableOf(t *testing.T, merges []api.Merge) *token.Table {
	t.Helper()
	x, n, e := token.New(merges...)
	if e != api.OK {
		t.Fatalf("merge %d: error %d", n, e)
	}
	return x
}

// randomMerges is up to n merges of letters of an alphabet, and of what they make.
func randomMerges(r *rand.Rand, n int, letters string) []api.Merge {
	x, _, _ := token.New()
	var there []int
	for i := range len(letters) {
		there = append(there, int(letters[i]))
	}
	for range n {
		m := api.Merge{A: there[r.Intn(len(there))], B: there[r.Intn(len(there))]}
		if id, e := x.Add(m); e == api.OK {
			there = append(there, id)
		}
	}
	return x.Merges()
}

func randomText(r *rand.Rand, n int, letters string) string {
	var b strings.Builder
	for range n {
		b.WriteByte(letters[r.Intn(len(letters))])
	}
	return b.String()
}

// textOf is the tokens' bytes, one behind the other.
func textOf(t *testing.T, x *token.Table, ids []int) string {
	t.Helper()
	var b strings.Builder
	for _, id := range ids {
		s, ok := x.Bytes(id)
		if !ok {
			t.Fatalf("no token %d", id)
		}
		b.WriteString(s)
	}
	return b.String()
}

// mustMake holds every answer of a text against the document.
func mustMake(t *testing.T, x *token.Table, merges []api.Merge, s string) {
	t.Helper()
	got := chain.Encode(x, s)
	if want := byNumber(merges, s, math.MaxInt); !slices.Equal(got, want) {
		t.Fatalf("of %q by %v: %v: want %v", s, merges, got, want)
	}
	want, steps := byLeast(merges, s)
	if !slices.Equal(got, want) {
		t.Fatalf("of %q by %v, the least first: %v: want %v", s, merges, got, want)
	}
	if n := chain.Steps(x, s); n != steps {
		t.Fatalf("Steps of %q by %v: %d: want %d", s, merges, n, steps)
	}
	if back := textOf(t, x, got); back != s {
		t.Fatalf("of %q: %v, which is %q", s, got, back)
	}
	for i := range max(len(got)-1, 0) {
		if id, ok := x.Pair(got[i], got[i+1]); ok {
			t.Fatalf("of %q: %v: %d is still to be made", s, got, id)
		}
	}
}

// P5.1: the chapter's examples.
func TestExamples(t *testing.T) {
	one := tableOf(t, []api.Merge{{A: 'a', B: 'b'}, {A: 256, B: 'c'}})
	if got := chain.Encode(one, "abcab"); !slices.Equal(got, []int{257, 256}) {
		t.Errorf("of abcab: %v", got)
	}
	two := tableOf(t, []api.Merge{{A: 'b', B: 'c'}, {A: 'a', B: 'b'}, {A: 257, B: 'c'}})
	if got := chain.Encode(two, "abc"); !slices.Equal(got, []int{'a', 256}) {
		t.Errorf("of abc: %v", got)
	}
}

// P5.1, P5.2: all short texts, by tables of few letters.
func TestShortTexts(t *testing.T) {
	r := rand.New(rand.NewSource(1))
	for range 60 {
		merges := randomMerges(r, 1+r.Intn(12), "ab")
		x := tableOf(t, merges)
		for n := range 9 {
			for bits := range 1 << n {
				s := make([]byte, n)
				for i := range s {
					s[i] = 'a' + byte(bits>>i&1)
				}
				mustMake(t, x, merges, string(s))
			}
		}
	}
}

// P5.1, P5.2: longer texts, of more letters, with many tokens.
func TestLongerTexts(t *testing.T) {
	r := rand.New(rand.NewSource(2))
	for _, letters := range []string{"a", "ab", "abc", "abcdefgh", "a\x00\xff\n"} {
		for range 60 {
			merges := randomMerges(r, r.Intn(120), letters)
			x := tableOf(t, merges)
			for range 5 {
				mustMake(t, x, merges, randomText(r, r.Intn(120), letters))
			}
		}
	}
}

// P5.1: what has become one isn't looked at again, in a run of one byte.
func TestRuns(t *testing.T) {
	tables := [][]api.Merge{
		{{A: 'a', B: 'a'}},
		{{A: 'a', B: 'a'}, {A: 256, B: 256}, {A: 257, B: 257}},
		{{A: 'a', B: 'a'}, {A: 256, B: 'a'}, {A: 256, B: 256}},
		{{A: 'a', B: 'a'}, {A: 'a', B: 256}, {A: 257, B: 257}, {A: 256, B: 257}},
	}
	for _, merges := range tables {
		x := tableOf(t, merges)
		for n := range 70 {
			mustMake(t, x, merges, strings.Repeat("a", n))
		}
	}
}

// P5.1: every byte is a token, whatever the table; texts are of any bytes.
func TestAllBytes(t *testing.T) {
	var all []byte
	var want []int
	for b := range 256 {
		all = append(all, byte(b))
		want = append(want, b)
	}
	x := tableOf(t, nil)
	if got := chain.Encode(x, string(all)); !slices.Equal(got, want) {
		t.Errorf("of all bytes: %v", got)
	}
	if n := chain.Steps(x, string(all)); n != 0 {
		t.Errorf("Steps without merges: %d", n)
	}
	merges := []api.Merge{{A: 255, B: 0}, {A: 0xc3, B: 0xa9}, {A: 0xa9, B: 0xc3}}
	mustMake(t, tableOf(t, merges), merges, "\xff\x00\xff\xff\x00\x00é\xa9éé\xc3")
}

// P5.1: nothing is made of nothing.
func TestNoBytes(t *testing.T) {
	x := tableOf(t, []api.Merge{{A: 'a', B: 'a'}})
	if got := chain.Encode(x, ""); len(got) != 0 {
		t.Errorf("Encode of nothing: %v", got)
	}
	if got := chain.Below(x, "", 300); len(got) != 0 {
		t.Errorf("Below of nothing: %v", got)
	}
	if n := chain.Steps(x, ""); n != 0 {
		t.Errorf("Steps of nothing: %d", n)
	}
	if got := chain.Spans(x); len(got) != 0 {
		t.Errorf("Spans of nothing: %v", got)
	}
}

// P5.1: a full table, with a token of the most bytes.
func TestFullTable(t *testing.T) {
	merges := []api.Merge{{A: 'a', B: 'a'}}
	for len(merges) < 6 {
		id := api.Bytes + len(merges) - 1
		merges = append(merges, api.Merge{A: id, B: id})
	}
	for b := 0; len(merges) < api.MaxVocab-api.Bytes; b++ {
		if first := b / 256; first != 'a' {
			merges = append(merges, api.Merge{A: first, B: b % 256})
		}
	}
	x := tableOf(t, merges)
	if got := chain.Encode(x, strings.Repeat("a", 129)); !slices.Equal(got, []int{261, 261, 'a'}) {
		t.Errorf("of 129: %v", got)
	}
	if n := chain.Steps(x, strings.Repeat("a", 129)); n != 126 {
		t.Errorf("Steps of 129: %d", n)
	}
	last := merges[len(merges)-1]
	if got := chain.Encode(x, string([]byte{byte(last.A), byte(last.B)})); !slices.Equal(got, []int{999}) {
		t.Errorf("the last token: %v", got)
	}
	r := rand.New(rand.NewSource(3))
	for range 20 {
		mustMake(t, x, merges, randomText(r, 60, "\x00\x01\x02\x03aaaa"))
	}
}

// P5.1: a table that has grown makes what it has now.
func TestGrownTable(t *testing.T) {
	x := tableOf(t, nil)
	var merges []api.Merge
	for _, m := range []api.Merge{{A: 'a', B: 'b'}, {A: 'c', B: 256}, {A: 256, B: 257}} {
		mustMake(t, x, merges, "abcababab")
		x.Add(m)
		merges = append(merges, m)
		mustMake(t, x, merges, "abcababab")
	}
}

// P5.1: by the tokens below a number alone, whatever the number is.
func TestBelow(t *testing.T) {
	r := rand.New(rand.NewSource(4))
	for range 80 {
		merges := randomMerges(r, 1+r.Intn(20), "abc"[:1+r.Intn(3)])
		x := tableOf(t, merges)
		s := randomText(r, r.Intn(40), "abc")
		numbers := []int{math.MinInt, -1, 0, 1, 97, 98, 255, api.MaxVocab, math.MaxInt}
		for id := range len(merges) + 2 {
			numbers = append(numbers, api.Bytes+id)
		}
		for _, below := range numbers {
			if got, want := chain.Below(x, s, below), byNumber(merges, s, below); !slices.Equal(got, want) {
				t.Fatalf("of %q below %d by %v: %v: want %v", s, below, merges, got, want)
			}
		}
	}
}

// P5.1: where each of the tokens ends, canonical or not.
func TestSpans(t *testing.T) {
	r := rand.New(rand.NewSource(5))
	x := tableOf(t, randomMerges(r, 60, "ab"))
	for range 200 {
		var ids, want []int
		end := 0
		for range r.Intn(12) {
			id := r.Intn(x.Len())
			s, _ := x.Bytes(id)
			end += len(s)
			ids, want = append(ids, id), append(want, end)
		}
		if got := chain.Spans(x, ids...); !slices.Equal(got, want) {
			t.Fatalf("of %v: %v: want %v", ids, got, want)
		}
	}
	if got := chain.Spans(x, 0, 255, 256); !slices.Equal(got, []int{1, 2, 4}) {
		t.Errorf("the ends of 0, 255, 256: %v", got)
	}
}

// P5.1: nothing, if one of the tokens isn't there, wherever it stands.
func TestSpansOfNoToken(t *testing.T) {
	x := tableOf(t, []api.Merge{{A: 'a', B: 'b'}})
	for _, no := range []int{-1, 257, 1000, math.MaxInt, math.MinInt} {
		for _, ids := range [][]int{{no}, {no, 'a', 256}, {'a', no, 256}, {'a', 256, no}} {
			if got := chain.Spans(x, ids...); len(got) != 0 {
				t.Errorf("of %v: %v", ids, got)
			}
		}
	}
}

// P5.1: of a nil table nothing; of one that no maker answered no call panics.
func TestNoTable(t *testing.T) {
	if got := chain.Encode(nil, "ab"); len(got) != 0 {
		t.Errorf("Encode: %v", got)
	}
	for _, below := range []int{-1, 0, 1, 300} {
		if got := chain.Below(nil, "ab", below); len(got) != 0 {
			t.Errorf("Below %d: %v", below, got)
		}
	}
	if n := chain.Steps(nil, "ab"); n != 0 {
		t.Errorf("Steps: %d", n)
	}
	if got := chain.Spans(nil, 'a', 'b'); len(got) != 0 {
		t.Errorf("Spans: %v", got)
	}
	if got := chain.Spans(nil); len(got) != 0 {
		t.Errorf("Spans of nothing: %v", got)
	}
	raw := &token.Table{}
	chain.Encode(raw, "ab")
	chain.Below(raw, "ab", 300)
	chain.Steps(raw, "ab")
	chain.Spans(raw, 'a')
}

// Rule 4: the table and the ids, with their spare room, stay; each answer is new memory.
func TestNothingIsSharedOrChanged(t *testing.T) {
	merges := []api.Merge{{A: 'a', B: 'b'}, {A: 256, B: 256}}
	x := tableOf(t, merges)
	room := []int{256, 'a', 257, -7, -8}
	ids := room[:3]
	ends := chain.Spans(x, ids...)
	for i := range ends {
		ends[i] = -1
	}
	if !slices.Equal(room, []int{256, 'a', 257, -7, -8}) {
		t.Errorf("the ids are %v", room)
	}
	if again := chain.Spans(x, ids...); !slices.Equal(again, []int{2, 3, 7}) {
		t.Errorf("the ends are %v", again)
	}
	made := chain.Encode(x, "ababab")
	for i := range made {
		made[i] = -1
	}
	if again := chain.Encode(x, "ababab"); !slices.Equal(again, []int{257, 256}) {
		t.Errorf("what is made is %v", again)
	}
	if x.Len() != 258 || !slices.Equal(x.Merges(), merges) {
		t.Errorf("the table is %v", x.Merges())
	}
}

// A long text costs little more than its length: by a walk from its beginning for each step it would take hours.
func TestVeryLongText(t *testing.T) {
	merges := []api.Merge{{A: 'a', B: 'b'}, {A: 256, B: 256}, {A: 257, B: 'c'}, {A: 'c', B: 258}}
	x := tableOf(t, merges)
	s := strings.Repeat("cababcab", 100000)
	got := chain.Encode(x, s)
	if want := byNumber(merges, s, math.MaxInt); !slices.Equal(got, want) {
		t.Errorf("%d tokens: want %d", len(got), len(want))
	}
	if n := chain.Steps(x, s); n != len(s)-len(got) {
		t.Errorf("Steps: %d: want %d", n, len(s)-len(got))
	}
}
