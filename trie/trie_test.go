package trie_test

import (
	"math/rand"
	"slices"
	"strings"
	"sync"
	"testing"

	"ligature/api"
	"ligature/token"
	"ligature/trie"
)

func mustTable(t *testing.T, l ...api.Merge) *token.Table {
	t.Helper()
	x, _, e := token.New(l...)
	if e != api.OK {
		t.Fatalf("New of %v: error %d", l, e)
	}
	return x
}

// textsOf is the bytes of a table's tokens, by their numbers.
func textsOf(x *token.Table) []string {
	var texts []string
	for id := range x.Len() {
		s, _ := x.Bytes(id)
		texts = append(texts, s)
	}
	return texts
}

// begin is the tokens that begin a text, by the words of the document alone: the shortest first.
func begin(texts []string, s string) []int {
	var ids []int
	for n := range len(s) + 1 {
		if id := slices.Index(texts, s[:n]); id >= 0 {
			ids = append(ids, id)
		}
	}
	return ids
}

// within is the tokens whose bytes begin with a text and are more than some, likewise.
func within(texts []string, s string, more int) []int {
	var ids []int
	for id, x := range texts {
		if strings.HasPrefix(x, s) && len(x) > more {
			ids = append(ids, id)
		}
	}
	return ids
}

// beginnings is how many unlike texts there are with which some token begins, likewise.
func beginnings(texts []string) int {
	seen := map[string]bool{}
	for _, x := range texts {
		for n := range len(x) + 1 {
			seen[x[:n]] = true
		}
	}
	return len(seen)
}

// mustTell holds what a trie answers of a text against the document.
func mustTell(t *testing.T, r *trie.Trie, texts []string, s string) {
	t.Helper()
	first := begin(texts, s)
	if got := r.Begin(s); !slices.Equal(got, first) {
		t.Fatalf("Begin(%q): %v: want %v", s, got, first)
	}
	last, some := 0, len(first) > 0
	if some {
		last = first[len(first)-1]
	}
	if id, ok := r.Longest(s); id != last || ok != some {
		t.Fatalf("Longest(%q): %d, %v: want %d, %v", s, id, ok, last, some)
	}
	all := within(texts, s, -1)
	if got := r.Within(s); !slices.Equal(got, all) {
		t.Fatalf("Within(%q): %v: want %v", s, got, all)
	}
	if got, want := r.Longer(s), within(texts, s, len(s)); !slices.Equal(got, want) {
		t.Fatalf("Longer(%q): %v: want %v", s, got, want)
	}
	if got := r.Count(s); got != len(all) {
		t.Fatalf("Count(%q): %d: want %d", s, got, len(all))
	}
}

// mustBe holds a trie against the document at each text with which a token begins, and at each of these and a byte more.
func mustBe(t *testing.T, r *trie.Trie, texts []string) {
	t.Helper()
	if got, want := r.Nodes(), beginnings(texts); got != want {
		t.Fatalf("Nodes: %d: want %d", got, want)
	}
	mustTell(t, r, texts, "")
	for _, x := range texts {
		for n := range len(x) {
			mustTell(t, r, texts, x[:n+1])
		}
		for _, b := range []string{"a", "b", "\x00", "\xff"} {
			mustTell(t, r, texts, x+b)
		}
	}
}

// random is a table of tokens of a few unlike bytes, many of them long.
func random(r *rand.Rand, few, merges int) *token.Table {
	x, _, _ := token.New()
	pick := func() int {
		if n := x.Len() - 256; n > 0 && r.Intn(3) > 0 {
			return 256 + r.Intn(n)
		}
		return 'a' + r.Intn(few)
	}
	for range merges {
		x.Add(api.Merge{A: pick(), B: pick()})
	}
	return x
}

// P11.1: the chapter's example.
func TestExample(t *testing.T) {
	r := trie.New(mustTable(t, api.Merge{A: 'a', B: 'b'}, api.Merge{A: 256, B: 'c'}))
	if got := r.Begin("abcd"); !slices.Equal(got, []int{'a', 256, 257}) {
		t.Errorf("Begin: %v", got)
	}
	if got := r.Longer("ab"); !slices.Equal(got, []int{257}) {
		t.Errorf("Longer: %v", got)
	}
	if id, ok := r.Longest("abcd"); id != 257 || !ok {
		t.Errorf("Longest: %d, %v", id, ok)
	}
	if got := r.Within("ab"); !slices.Equal(got, []int{256, 257}) {
		t.Errorf("Within: %v", got)
	}
	if got := r.Count("a"); got != 3 {
		t.Errorf("Count: %d", got)
	}
	if got := r.Nodes(); got != 259 { // the empty text, the bytes, ab, abc
		t.Errorf("Nodes: %d", got)
	}
}

// P11.1: a table of no merges: each byte begins what it begins, the byte 0 too.
func TestBytesAlone(t *testing.T) {
	r := trie.New(mustTable(t))
	mustBe(t, r, textsOf(mustTable(t)))
	if id, ok := r.Longest("\x00x"); id != 0 || !ok {
		t.Errorf("Longest of the byte 0: %d, %v", id, ok)
	}
	if got := r.Nodes(); got != 257 {
		t.Errorf("Nodes: %d", got)
	}
}

// P11.1: the empty text: no token begins it, all begin with it, all are longer.
func TestEmptyText(t *testing.T) {
	x := mustTable(t, api.Merge{A: 'b', B: 'a'}, api.Merge{A: 'a', B: 256})
	r := trie.New(x)
	if got := r.Begin(""); len(got) != 0 {
		t.Errorf("Begin: %v", got)
	}
	if id, ok := r.Longest(""); id != 0 || ok {
		t.Errorf("Longest: %d, %v", id, ok)
	}
	if a, b := r.Within(""), r.Longer(""); len(a) != 258 || len(b) != 258 || !slices.IsSorted(a) || !slices.IsSorted(b) {
		t.Errorf("Within, Longer: %v, %v", a, b)
	}
	if got := r.Count(""); got != 258 {
		t.Errorf("Count: %d", got)
	}
}

// P11.1: a text that begins tokens needn't be one: it counts as a node, not as a token.
func TestGaps(t *testing.T) {
	// bc, abc: no token is ab.
	x := mustTable(t, api.Merge{A: 'b', B: 'c'}, api.Merge{A: 'a', B: 256})
	r := trie.New(x)
	if got := r.Begin("abcd"); !slices.Equal(got, []int{'a', 257}) {
		t.Errorf("Begin: %v", got)
	}
	if id, ok := r.Longest("abd"); id != 'a' || !ok {
		t.Errorf("Longest: %d, %v", id, ok)
	}
	if a, b := r.Within("ab"), r.Longer("ab"); !slices.Equal(a, []int{257}) || !slices.Equal(b, []int{257}) {
		t.Errorf("Within, Longer: %v, %v", a, b)
	}
	if r.Count("ab") != 1 || r.Nodes() != 260 { // the empty text, the bytes, bc, ab, abc
		t.Errorf("Count, Nodes: %d, %d", r.Count("ab"), r.Nodes())
	}
	mustBe(t, r, textsOf(x))
}

// P11.1: Within and Longer rise by number, also where a longer token or a greater byte has the lesser one.
func TestRising(t *testing.T) {
	// cb, acb, ac, az, ab: the longer and the greater ones first.
	x := mustTable(t, api.Merge{A: 'c', B: 'b'}, api.Merge{A: 'a', B: 256}, api.Merge{A: 'a', B: 'c'}, api.Merge{A: 'a', B: 'z'}, api.Merge{A: 'a', B: 'b'})
	r := trie.New(x)
	for range 20 {
		if got := r.Within("a"); !slices.Equal(got, []int{'a', 257, 258, 259, 260}) {
			t.Fatalf("Within: %v", got)
		}
		if got := r.Within("ac"); !slices.Equal(got, []int{257, 258}) {
			t.Fatalf("Within: %v", got)
		}
		if got := r.Longer("a"); !slices.Equal(got, []int{257, 258, 259, 260}) {
			t.Fatalf("Longer: %v", got)
		}
		if got := r.Begin("acb"); !slices.Equal(got, []int{'a', 258, 257}) {
			t.Fatalf("Begin: %v", got)
		}
	}
}

// P11.1: random tables, held against the words of the document at all beginnings.
func TestRandomTables(t *testing.T) {
	for seed := range int64(12) {
		x := random(rand.New(rand.NewSource(seed)), 1+int(seed)%4, 60)
		mustBe(t, trie.New(x), textsOf(x))
	}
}

// P11.1: random texts, most of which no token begins with.
func TestRandomTexts(t *testing.T) {
	for seed := range int64(20) {
		r := rand.New(rand.NewSource(seed))
		x := random(r, 2+int(seed)%3, 80)
		k, texts := trie.New(x), textsOf(x)
		for range 60 {
			b := make([]byte, r.Intn(12))
			for i := range b {
				b[i] = byte('a' + r.Intn(5))
			}
			mustTell(t, k, texts, string(b))
		}
	}
}

// P11.1: bytes that are no text of any script are bytes too.
func TestHighBytes(t *testing.T) {
	x := mustTable(t, api.Merge{A: 0xc3, B: 0xa9}, api.Merge{A: 0, B: 0}, api.Merge{A: 255, B: 256}, api.Merge{A: 257, B: 255})
	r := trie.New(x)
	mustBe(t, r, textsOf(x))
	mustTell(t, r, textsOf(x), "é\x00\xff")
	mustTell(t, r, textsOf(x), "\xff\xc3")
	mustTell(t, r, textsOf(x), "\x00\x00\x00")
}

// P11.1: tokens of the most bytes there may be, and texts that are longer than any.
func TestLongTokens(t *testing.T) {
	l := []api.Merge{{A: 'a', B: 'a'}}
	for i := range 5 {
		l = append(l, api.Merge{A: 256 + i, B: 256 + i})
	}
	x := mustTable(t, l...)
	r, texts := trie.New(x), textsOf(x)
	if got := r.Begin(strings.Repeat("a", 100000)); !slices.Equal(got, []int{'a', 256, 257, 258, 259, 260, 261}) {
		t.Errorf("Begin: %v", got)
	}
	for n := range 70 {
		mustTell(t, r, texts, strings.Repeat("a", n))
		mustTell(t, r, texts, strings.Repeat("a", n)+"b")
	}
	if got := r.Nodes(); got != 320 { // the empty text, 255 other bytes, a to 64 of it
		t.Errorf("Nodes: %d", got)
	}
}

// P11.1: a table of as many tokens as there may be.
func TestFullTable(t *testing.T) {
	var l []api.Merge
	for i := range 744 {
		l = append(l, api.Merge{A: i / 256, B: i % 256})
	}
	x := mustTable(t, l...)
	r, texts := trie.New(x), textsOf(x)
	for _, s := range []string{"", "\x00", "\x01\x02", "\x02\xe7", "\x02\xe8", "\x03", "\x03\x00", "\x00\x00\x00"} {
		mustTell(t, r, texts, s)
	}
	if r.Nodes() != 1001 || r.Count("") != 1000 {
		t.Errorf("Nodes, Count: %d, %d", r.Nodes(), r.Count(""))
	}
}

// P11.1: the tokens as they are now: what is added to the table later isn't there, and the table is as it was.
func TestTokensAsTheyAreNow(t *testing.T) {
	x := mustTable(t, api.Merge{A: 'a', B: 'b'})
	before := textsOf(x)
	r := trie.New(x)
	if !slices.Equal(textsOf(x), before) {
		t.Errorf("the table has changed")
	}
	if id, e := x.Add(api.Merge{A: 256, B: 'c'}); id != 257 || e != api.OK {
		t.Fatalf("Add: %d, %d", id, e)
	}
	mustBe(t, r, before)
	mustTell(t, r, before, "abc")
	mustBe(t, trie.New(x), textsOf(x))
}

// P11.1: of a nil table a nil trie, and of that nothing, 0.
func TestNil(t *testing.T) {
	r := trie.New(nil)
	if r != nil {
		t.Fatalf("New of nil: %v", r)
	}
	for _, s := range []string{"", "a", "\x00", "ab"} {
		if id, ok := r.Longest(s); id != 0 || ok {
			t.Errorf("Longest(%q): %d, %v", s, id, ok)
		}
		if r.Begin(s) != nil || r.Within(s) != nil || r.Longer(s) != nil || r.Count(s) != 0 {
			t.Errorf("%q: %v, %v, %v, %d", s, r.Begin(s), r.Within(s), r.Longer(s), r.Count(s))
		}
	}
	if r.Nodes() != 0 {
		t.Errorf("Nodes: %d", r.Nodes())
	}
}

// P11.1: a trie and a table that no maker answered don't make a call panic.
func TestOthersDontPanic(t *testing.T) {
	for _, r := range []*trie.Trie{{}, trie.New(&token.Table{})} {
		for _, s := range []string{"", "a"} {
			r.Begin(s)
			r.Longest(s)
			r.Within(s)
			r.Longer(s)
			r.Count(s)
		}
		r.Nodes()
	}
}

// P11.1: what is answered is new memory: who writes to it, and to its spare room, changes no later answer.
func TestAnswersAreNew(t *testing.T) {
	x := random(rand.New(rand.NewSource(1)), 2, 60)
	r, texts := trie.New(x), textsOf(x)
	for _, s := range []string{"", "a", "ab", "abab"} {
		for _, ask := range []func(string) []int{r.Begin, r.Within, r.Longer} {
			l := ask(s)
			l = l[:cap(l)]
			for i := range l {
				l[i] = -1
			}
		}
	}
	mustBe(t, r, texts)
}

// P11.1: many may ask one trie at once.
func TestManyAtOnce(t *testing.T) {
	x := random(rand.New(rand.NewSource(2)), 3, 40)
	r, texts := trie.New(x), textsOf(x)
	var all sync.WaitGroup
	for range 8 {
		all.Go(func() {
			for _, s := range []string{"", "a", "ab", "abc", "cba", "x"} {
				if !slices.Equal(r.Within(s), within(texts, s, -1)) || !slices.Equal(r.Begin(s), begin(texts, s)) {
					t.Errorf("%q", s)
				}
			}
		})
	}
	all.Wait()
}
