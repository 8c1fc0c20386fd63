package mark_test

import (
	"math"
	"math/rand"
	"slices"
	"strings"
	"testing"

	"ligature/api"
	"ligature/mark"
)

// begins is the mark that begins a text and its length, by the words of the document alone: the longest text counts.
func begins(l []api.Special, text string) (int, int) {
	for n := len(text); n > 0; n-- {
		for i, x := range l {
			if x.Text == text[:n] {
				return -1 - i, n
			}
		}
	}
	return 0, 0
}

// parse is a text's items, likewise.
func parse(l []api.Special, text string) []int {
	var items []int
	for i := 0; i < len(text); i++ {
		m, n := begins(l, text[i:])
		if n == 0 {
			items = append(items, int(text[i]))
			continue
		}
		items = append(items, m)
		i += n - 1
	}
	return items
}

func mustNew(t *testing.T, l ...api.Special) *mark.Set {
	t.Helper()
	s, n, e := mark.New(l...)
	if s == nil || n != len(l) || e != api.OK {
		t.Fatalf("New of %v: %d, %d", l, n, e)
	}
	return s
}

// mustFail holds a wrong list's answer against what is wanted.
func mustFail(t *testing.T, place int, want api.Errno, l ...api.Special) {
	t.Helper()
	if s, n, e := mark.New(l...); s != nil || n != place || e != want {
		t.Errorf("New of %v: %v, %d, %d: want %d, %d", l, s, n, e, place, want)
	}
}

// mustHave holds what a set tells of its special tokens against the document.
func mustHave(t *testing.T, s *mark.Set, l []api.Special) {
	t.Helper()
	if s.Len() != len(l) || !slices.Equal(s.All(), l) {
		t.Fatalf("%d, %v: want %v", s.Len(), s.All(), l)
	}
	for i, x := range l {
		if id, ok := s.Id(-1 - i); id != x.Id || !ok {
			t.Errorf("the Id of mark %d: %d, %v: want %d", -1-i, id, ok, x.Id)
		}
		if m, ok := s.Mark(x.Id); m != -1-i || !ok {
			t.Errorf("the mark of %d: %d, %v: want %d", x.Id, m, ok, -1-i)
		}
		if m, ok := s.At(x.Text); m != -1-i || !ok {
			t.Errorf("the mark at %q: %d, %v: want %d", x.Text, m, ok, -1-i)
		}
		if got, ok := s.Render(-1 - i); got != x.Text || !ok {
			t.Errorf("mark %d, rendered: %q, %v: want %q", -1-i, got, ok, x.Text)
		}
	}
	for _, m := range []int{0, 1, 5, 255, 256, math.MaxInt, -1 - len(l), -2 - len(l), math.MinInt, math.MinInt + 1} {
		if id, ok := s.Id(m); id != 0 || ok {
			t.Errorf("the Id of %d, that is no mark: %d, %v", m, id, ok)
		}
	}
}

// mustParse holds what is told of a text against the document, and renders it again.
func mustParse(t *testing.T, s *mark.Set, text string, want ...int) {
	t.Helper()
	items := s.Parse(text)
	if !slices.Equal(items, want) {
		t.Fatalf("%q, parsed: %v: want %v", text, items, want)
	}
	if got, ok := s.Render(items...); got != text || !ok {
		t.Fatalf("%q, parsed and rendered: %q, %v", text, got, ok)
	}
}

var example = []api.Special{{Id: 300, Text: "<"}, {Id: 301, Text: "<|"}}

// many is n special tokens that are unlike each other, of 1 to 64 bytes.
func many(n int) []api.Special {
	var l []api.Special
	for i := range n {
		l = append(l, api.Special{Id: api.MaxId - i, Text: strings.Repeat("a", 2*i%64+1) + strings.Repeat("b", i/32)})
	}
	return l
}

// P9.1, P9.3: the chapter's example.
func TestExample(t *testing.T) {
	s := mustNew(t, example...)
	mustHave(t, s, example)
	mustParse(t, s, "a<|b<", 97, -2, 98, -1)
}

// P9.1: the longest one counts, in whatever order they stand, and it goes on behind it.
func TestLongest(t *testing.T) {
	l := []api.Special{{Id: 1, Text: "aab"}, {Id: 2, Text: "a"}, {Id: 3, Text: "ba"}, {Id: 4, Text: "aa"}, {Id: 5, Text: "aaaaa"}}
	s := mustNew(t, l...)
	mustParse(t, s, "aab", -1)
	mustParse(t, s, "aaab", -4, -2, 'b')
	mustParse(t, s, "aaaab", -4, -1)
	mustParse(t, s, "aaaaab", -5, 'b')
	mustParse(t, s, "baba", -3, -3)
	mustParse(t, s, "bbaa", 'b', -3, -2)
	mustParse(t, s, "xaax", 'x', -4, 'x')
	for text, want := range map[string]int{"aab": -1, "aabaaaaa": -1, "ab": -2, "aaaa": -4, "bab": -3, "aaaaaa": -5} {
		if m, ok := s.At(text); m != want || !ok {
			t.Errorf("at %q: %d, %v: want %d", text, m, ok, want)
		}
	}
	for _, text := range []string{"", "b", "bb", "xaab", "A", "bbaab"} {
		if m, ok := s.At(text); m != 0 || ok {
			t.Errorf("at %q: %d, %v", text, m, ok)
		}
	}
}

// P9.1: a text that is not whole is no mark; marks are of any bytes.
func TestAnyBytes(t *testing.T) {
	l := []api.Special{{Id: 0, Text: "\x00"}, {Id: 5, Text: "\xff\xfe"}, {Id: 7, Text: "é"}, {Id: 9, Text: "end"}}
	s := mustNew(t, l...)
	mustHave(t, s, l)
	mustParse(t, s, "\x00\xff\xfe\xff\xc3é\xa9", -1, -2, 0xff, 0xc3, -3, 0xa9)
	mustParse(t, s, "endeen", -4, 'e', 'e', 'n')
	mustParse(t, s, "")
	if got, ok := s.Render(); got != "" || !ok {
		t.Errorf("no items, rendered: %q, %v", got, ok)
	}
}

// P9.1: a set may have none, and 32; Ids from 0 to 2^30, texts of 1 to 64 bytes.
func TestEdges(t *testing.T) {
	mustHave(t, mustNew(t), nil)
	l := many(32)
	l[3].Id, l[4].Text = 0, strings.Repeat("x", 64)
	s := mustNew(t, l...)
	mustHave(t, s, l)
	mustParse(t, s, strings.Repeat("a", 130), -32, -32, -2, -1) // 63, 63, 3 and 1 bytes
	mustParse(t, s, strings.Repeat("x", 65), -5, 'x')
}

// P9.1: one that isn't right is told, wherever it stands, also where it is one too many or there twice.
func TestNotRight(t *testing.T) {
	long := strings.Repeat("a", 65)
	for _, x := range []api.Special{{Id: -1, Text: "x"}, {Id: api.MaxId + 1, Text: "x"}, {Id: 7, Text: ""}, {Id: 7, Text: long}, {}, {Id: math.MinInt, Text: "x"}, {Id: math.MaxInt, Text: "x"}} {
		mustFail(t, 0, api.ErrArg, x)
		mustFail(t, 0, api.ErrArg, x, example[0])
		mustFail(t, 1, api.ErrArg, example[0], x)
		mustFail(t, 0, api.ErrArg, x, x)
		mustFail(t, 32, api.ErrArg, append(many(32), x)...)
	}
	mustFail(t, 2, api.ErrArg, example[0], example[1], api.Special{Id: 300})
	mustFail(t, 1, api.ErrArg, api.Special{Id: 3, Text: "x"}, api.Special{Id: -3, Text: "x"})
}

// P9.1: one too many is told ahead of one that is there twice, but only where it is the first that can't be there.
func TestTooMany(t *testing.T) {
	l := many(32)
	mustFail(t, 32, api.ErrLong, append(many(32), api.Special{Id: 1, Text: "x"})...)
	mustFail(t, 32, api.ErrLong, append(many(32), l[0])...)
	mustFail(t, 32, api.ErrLong, append(many(32), api.Special{Id: 1, Text: "x"}, api.Special{})...)
	mustFail(t, 31, api.ErrTwice, append(many(31), l[0], api.Special{Id: 1, Text: "x"})...)
}

// P9.1: two of one Id, or of one text, can't be there, however far from each other.
func TestTwice(t *testing.T) {
	mustFail(t, 1, api.ErrTwice, example[0], example[0])
	mustFail(t, 1, api.ErrTwice, example[0], api.Special{Id: 300, Text: "x"})
	mustFail(t, 1, api.ErrTwice, example[0], api.Special{Id: 7, Text: "<"})
	mustFail(t, 2, api.ErrTwice, example[0], example[1], api.Special{Id: 300, Text: "x"})
	mustFail(t, 2, api.ErrTwice, example[0], example[1], api.Special{Id: 7, Text: "<"})
	mustFail(t, 2, api.ErrTwice, example[0], example[1], api.Special{Id: 300, Text: "<|"})
	mustFail(t, 2, api.ErrTwice, example[0], example[1], example[1], api.Special{})
	mustHave(t, mustNew(t, api.Special{Id: 5, Text: "x"}, api.Special{Id: 6, Text: "X"}), []api.Special{{Id: 5, Text: "x"}, {Id: 6, Text: "X"}})
}

// P9.1: items that are neither bytes nor marks of the set have no bytes.
func TestRenderOfWrong(t *testing.T) {
	s := mustNew(t, example...)
	for _, item := range []int{256, 300, -3, -4, math.MaxInt, math.MinInt} {
		for _, items := range [][]int{{item}, {97, item}, {item, 97}, {-1, item, -2}} {
			if got, ok := s.Render(items...); got != "" || ok {
				t.Errorf("%v, rendered: %q, %v", items, got, ok)
			}
		}
	}
	for b := range 256 {
		if got, ok := s.Render(b, -1); got != string([]byte{byte(b), '<'}) || !ok {
			t.Errorf("%d, rendered: %q, %v", b, got, ok)
		}
	}
}

// P9.2: Ids that no mark has; a mark is no Id.
func TestMarkOfWrong(t *testing.T) {
	s := mustNew(t, example...)
	for _, id := range []int{0, 1, 299, 302, -1, -2, math.MaxInt, math.MinInt} {
		if m, ok := s.Mark(id); m != 0 || ok {
			t.Errorf("the mark of %d: %d, %v", id, m, ok)
		}
	}
}

// P9.2: bytes as items are their numbers, whatever marks there might be.
func TestBytes(t *testing.T) {
	var all []byte
	var want []int
	for b := range 256 {
		all, want = append(all, byte(b)), append(want, b)
	}
	if got := mark.Bytes(string(all)); !slices.Equal(got, want) {
		t.Errorf("all bytes: %v", got)
	}
	if got := mark.Bytes("<|é"); !slices.Equal(got, []int{'<', '|', 0xc3, 0xa9}) {
		t.Errorf("%v", got)
	}
	if got := mark.Bytes(""); len(got) != 0 {
		t.Errorf("of no bytes: %v", got)
	}
}

// P9.2: a nil set has no marks; of a set that no maker answered nothing panics.
func TestNil(t *testing.T) {
	for _, s := range []*mark.Set{nil, {}} {
		mustHave(t, s, nil)
		mustParse(t, s, "a<|", 'a', '<', '|')
		mustParse(t, s, "")
		if m, ok := s.Mark(0); m != 0 || ok {
			t.Errorf("the mark of 0: %d, %v", m, ok)
		}
		if m, ok := s.At("a"); m != 0 || ok {
			t.Errorf("at a: %d, %v", m, ok)
		}
		if got, ok := s.Render('a', -1); got != "" || ok {
			t.Errorf("a mark, rendered: %q, %v", got, ok)
		}
	}
}

// randomText is up to n bytes, of few kinds, so that marks are met.
func randomText(r *rand.Rand, n int) string {
	b := make([]byte, r.Intn(n+1))
	for i := range b {
		b[i] = "abc<"[r.Intn(4)]
	}
	return string(b)
}

// randomSet is special tokens that may be one set.
func randomSet(r *rand.Rand) []api.Special {
	var l []api.Special
	for range r.Intn(33) {
		x := api.Special{Id: r.Intn(500), Text: randomText(r, 5) + "a"}
		if !slices.ContainsFunc(l, func(y api.Special) bool { return x.Id == y.Id || x.Text == y.Text }) {
			l = append(l, x)
		}
	}
	return l
}

// P9.1, P9.2, P9.3: random sets and texts, held against the words of the document.
func TestRandom(t *testing.T) {
	for seed := range int64(300) {
		r := rand.New(rand.NewSource(seed))
		l := randomSet(r)
		s := mustNew(t, l...)
		mustHave(t, s, l)
		for range 30 {
			text := randomText(r, 40)
			mustParse(t, s, text, parse(l, text)...)
			want, n := begins(l, text)
			if m, ok := s.At(text); m != want || ok != (n > 0) {
				t.Fatalf("at %q: %d, %v: want %d", text, m, ok, want)
			}
		}
	}
}

// P9.3: a long text is parsed and rendered as it was.
func TestLongText(t *testing.T) {
	s := mustNew(t, many(32)...)
	text := strings.Repeat("aaaaaaaabaaaab", 3000)
	if got, ok := s.Render(s.Parse(text)...); got != text || !ok {
		t.Errorf("a long text isn't what it was")
	}
}

// Rule 4: what is handed in is neither changed nor kept, and what is answered is new.
func TestMemory(t *testing.T) {
	l := []api.Special{example[0], example[1], {Id: 9, Text: "z"}}
	s := mustNew(t, l[:2]...)
	if !slices.Equal(l, []api.Special{example[0], example[1], {Id: 9, Text: "z"}}) {
		t.Errorf("what was handed in is changed: %v", l)
	}
	l[0] = api.Special{Id: 4, Text: "q"}
	mustHave(t, s, example)
	all := s.All()
	all[1] = api.Special{Id: 5, Text: "r"}
	_ = append(all[:1], all[1])
	mustHave(t, s, example)
	items := []int{-2, 'a', -9}
	if _, ok := s.Render(items[:2]...); !ok || !slices.Equal(items, []int{-2, 'a', -9}) {
		t.Errorf("items are changed: %v", items)
	}
	first := s.Parse("<|a")
	first[0] = 7
	mustParse(t, s, "<|a", -2, 'a')
}
