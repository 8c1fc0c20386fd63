package token_test

import (
	"math"
	"math/rand"
	"slices"
	"strings"
	"testing"

	"ligature/api"
	"ligature/token"
)

func mustNew(t *testing.T, l ...api.Merge) *token.Table {
	t.Helper()
	x, n, e := token.New(l...)
	if x == nil || n != len(l) || e != api.OK {
		t.Fatalf("New of %d: %d, error %d", len(l), n, e)
	}
	return x
}

// mustBe holds every answer of a table against what the document says of these merges.
func mustBe(t *testing.T, x *token.Table, merges []api.Merge) {
	t.Helper()
	texts := textsOf(merges)
	longest := 0
	for id, s := range texts {
		longest = max(longest, len(s))
		if got, ok := x.Bytes(id); got != s || !ok {
			t.Fatalf("Bytes of %d: %q, %v: want %q", id, got, ok, s)
		}
		if got, ok := x.Find(s); got != id || !ok {
			t.Fatalf("Find %q: %d, %v: want %d", s, got, ok, id)
		}
		m, ok := x.Parents(id)
		if id < 256 && (ok || m != api.Merge{}) || id >= 256 && (!ok || m != merges[id-256]) {
			t.Fatalf("Parents of %d: %v, %v", id, m, ok)
		}
	}
	for i, m := range merges {
		if got, ok := x.Pair(m.A, m.B); got != 256+i || !ok {
			t.Fatalf("Pair of %v: %d, %v: want %d", m, got, ok, 256+i)
		}
	}
	if x.Len() != len(texts) || x.Longest() != longest || !slices.Equal(x.Merges(), merges) {
		t.Fatalf("%d tokens, the longest of %d, %d merges: want %d, %d, %d", x.Len(), x.Longest(), len(x.Merges()), len(texts), longest, len(merges))
	}
}

func textsOf(merges []api.Merge) []string {
	var texts []string
	for b := range 256 {
		texts = append(texts, string([]byte{byte(b)}))
	}
	for _, m := range merges {
		texts = append(texts, texts[m.A]+texts[m.B])
	}
	return texts
}

// errorOf is what Add must answer, by the words of the document alone.
func errorOf(merges []api.Merge, m api.Merge) api.Errno {
	texts := textsOf(merges)
	there := func(id int) bool { return 0 <= id && id < len(texts) }
	switch {
	case !there(m.A) || !there(m.B):
		return api.ErrId
	case len(texts[m.A])+len(texts[m.B]) > 64:
		return api.ErrLong
	case len(texts) >= 1000:
		return api.ErrLimit
	case slices.Contains(texts, texts[m.A]+texts[m.B]):
		return api.ErrTwice
	}
	return api.OK
}

// wide is 744 merges of two bytes each: with them a table is full.
func wide() []api.Merge {
	var l []api.Merge
	for i := range 744 {
		l = append(l, api.Merge{A: i / 256, B: i % 256})
	}
	return l
}

// P4.1, P4.2: a table of no merges.
func TestBytesAlone(t *testing.T) {
	mustBe(t, mustNew(t), nil)
	if l := mustNew(t).Merges(); len(l) != 0 {
		t.Errorf("%v", l)
	}
}

// P4.1: the chapter's examples.
func TestExamples(t *testing.T) {
	x := mustNew(t)
	if id, e := x.Add(api.Merge{A: 'a', B: 'b'}); id != 256 || e != api.OK {
		t.Errorf("ab: %d, %d", id, e)
	}
	if id, e := x.Add(api.Merge{A: 256, B: 'c'}); id != 257 || e != api.OK {
		t.Errorf("abc: %d, %d", id, e)
	}
	if s, ok := x.Bytes(257); s != "abc" || !ok {
		t.Errorf("%q, %v", s, ok)
	}
	if id, e := x.Add(api.Merge{A: 'b', B: 'c'}); id != 258 || e != api.OK {
		t.Errorf("bc: %d, %d", id, e)
	}
	if id, e := x.Add(api.Merge{A: 'a', B: 258}); id != 0 || e != api.ErrTwice {
		t.Errorf("abc again: %d, %d", id, e)
	}
	mustBe(t, x, []api.Merge{{A: 'a', B: 'b'}, {A: 256, B: 'c'}, {A: 'b', B: 'c'}})
}

// P4.1, P4.2: bytes that are no text of any script are bytes too.
func TestHighBytes(t *testing.T) {
	mustBe(t, mustNew(t, api.Merge{A: 0xc3, B: 0xa9}, api.Merge{A: 0, B: 0}, api.Merge{A: 255, B: 256}), []api.Merge{{A: 0xc3, B: 0xa9}, {A: 0, B: 0}, {A: 255, B: 256}})
}

// P4.1, P4.2: random tables, held against the words of the document.
func TestRandomTables(t *testing.T) {
	for seed := range int64(30) {
		r := rand.New(rand.NewSource(seed))
		x := mustNew(t)
		var merges []api.Merge
		for range 300 {
			few := 2 + int(seed)%5
			pick := func() int {
				if n := x.Len() - 256; r.Intn(4) > 0 && n > 0 {
					return 256 + r.Intn(n+1) // now and then one that isn't there
				}
				return 'a' + r.Intn(few)
			}
			m := api.Merge{A: pick(), B: pick()}
			want := errorOf(merges, m)
			id, e := x.Add(m)
			if e != want || e == api.OK && id != 256+len(merges) || e != api.OK && id != 0 {
				t.Fatalf("Add %v: %d, %d: want error %d", m, id, e, want)
			}
			if e == api.OK {
				merges = append(merges, m)
			} else if _, ok := x.Pair(m.A, m.B); ok != slices.Contains(merges, m) {
				t.Fatalf("Pair of %v: %v", m, ok)
			}
		}
		mustBe(t, x, merges)
		mustBe(t, mustNew(t, merges...), merges)
	}
}

// P4.1: no token that isn't there is a parent, also not the one that would be made.
func TestAddOfNone(t *testing.T) {
	x := mustNew(t, api.Merge{A: 'a', B: 'b'})
	for _, id := range []int{-1, 257, 258, 1000, math.MaxInt, math.MinInt} {
		for _, m := range []api.Merge{{A: id, B: 'c'}, {A: 'c', B: id}, {A: id, B: id}, {A: id, B: 256}} {
			if got, e := x.Add(m); got != 0 || e != api.ErrId {
				t.Errorf("Add %v: %d, %d", m, got, e)
			}
		}
	}
	mustBe(t, x, []api.Merge{{A: 'a', B: 'b'}})
}

// doubled is merges by which token 255+i has 2^i bytes.
func doubled(n int) []api.Merge {
	l := []api.Merge{{A: 'a', B: 'a'}}
	for i := range n - 1 {
		l = append(l, api.Merge{A: 256 + i, B: 256 + i})
	}
	return l
}

// P4.1: 64 bytes may be, 65 may not.
func TestAddOfLong(t *testing.T) {
	x := mustNew(t, doubled(6)...)
	if s, ok := x.Bytes(261); s != strings.Repeat("a", 64) || !ok || x.Longest() != 64 {
		t.Fatalf("%q, %v, the longest of %d", s, ok, x.Longest())
	}
	for _, m := range []api.Merge{{A: 261, B: 'a'}, {A: 'b', B: 261}, {A: 261, B: 261}} {
		if id, e := x.Add(m); id != 0 || e != api.ErrLong {
			t.Errorf("Add %v: %d, %d", m, id, e)
		}
	}
	mustBe(t, x, doubled(6))
	y := mustNew(t, doubled(5)...) // 32 bytes, to which 16, 8, 4 and 2 come
	l := doubled(5)
	for _, m := range []api.Merge{{A: 260, B: 259}, {A: 261, B: 258}, {A: 262, B: 257}, {A: 263, B: 256}} {
		l = append(l, m)
		if _, e := y.Add(m); e != api.OK {
			t.Fatalf("Add %v: %d", m, e)
		}
	}
	for _, m := range []api.Merge{{A: 264, B: 256}, {A: 256, B: 264}, {A: 264, B: 257}} {
		want := errorOf(l, m)
		if _, e := y.Add(m); e != want {
			t.Errorf("Add %v: %d: want %d", m, e, want)
		} else if e == api.OK {
			l = append(l, m)
		}
	}
	mustBe(t, y, l)
}

// P4.1: there are 1000 tokens at most.
func TestAddOfFull(t *testing.T) {
	l := wide()
	x := mustNew(t, l[:743]...)
	if id, e := x.Add(l[743]); id != 999 || e != api.OK {
		t.Fatalf("the last one: %d, %d", id, e)
	}
	if id, e := x.Add(api.Merge{A: 200, B: 200}); id != 0 || e != api.ErrLimit {
		t.Errorf("one more: %d, %d", id, e)
	}
	mustBe(t, x, l)
	if x.Len() != 1000 {
		t.Errorf("%d tokens", x.Len())
	}
}

// P4.1: of several errors the first one that is named is told.
func TestErrorsInOrder(t *testing.T) {
	long := doubled(6)
	full := append(slices.Clone(long), wide()[:744-len(long)]...)
	x := mustNew(t, full...)
	for _, c := range []struct {
		m    api.Merge
		want api.Errno
	}{
		{api.Merge{A: 261, B: 1000}, api.ErrId},
		{api.Merge{A: -1, B: 261}, api.ErrId},
		{api.Merge{A: 261, B: 261}, api.ErrLong},
		{api.Merge{A: 0, B: 0}, api.ErrLimit}, // it is there, too
		{api.Merge{A: 'a', B: 'a'}, api.ErrLimit},
		{api.Merge{A: 254, B: 254}, api.ErrLimit},
	} {
		if id, e := x.Add(c.m); id != 0 || e != c.want {
			t.Errorf("Add %v: %d, %d: want %d", c.m, id, e, c.want)
		}
	}
	var none *token.Table
	for _, m := range []api.Merge{{A: 'a', B: 'b'}, {A: -1, B: 5000}} {
		if id, e := none.Add(m); id != 0 || e != api.ErrArg {
			t.Errorf("Add %v to no table: %d, %d", m, id, e)
		}
	}
}

// P4.1: the place of the first one that can't be added.
func TestNewOfWrong(t *testing.T) {
	good := []api.Merge{{A: 'a', B: 'b'}, {A: 256, B: 'c'}, {A: 'b', B: 'c'}}
	for place := range len(good) + 1 {
		for _, wrong := range []api.Merge{{A: -1, B: 0}, {A: 0, B: 256 + place}, {A: 256 + place, B: 0}} {
			l := slices.Insert(slices.Clone(good), place, wrong)
			if x, n, e := token.New(l...); x != nil || n != place || e != api.ErrId {
				t.Errorf("%v: %v, %d, %d", l, x, n, e)
			}
		}
	}
	for _, c := range []struct {
		l     []api.Merge
		place int
		want  api.Errno
	}{
		{append(doubled(6), api.Merge{A: 261, B: 'b'}), 6, api.ErrLong},
		{append(wide(), api.Merge{A: 9, B: 9}), 744, api.ErrLimit},
		{append(slices.Clone(good), api.Merge{A: 'a', B: 258}), 3, api.ErrTwice},
		{[]api.Merge{{A: 'a', B: 'b'}, {A: 'a', B: 'b'}, {A: -1, B: -1}}, 1, api.ErrTwice},
	} {
		if x, n, e := token.New(c.l...); x != nil || n != c.place || e != c.want {
			t.Errorf("%d, %d: want %d, %d", n, e, c.place, c.want)
		}
	}
}

// P4.2: what isn't there.
func TestOfNone(t *testing.T) {
	x := mustNew(t, api.Merge{A: 'a', B: 'b'}, api.Merge{A: 256, B: 'c'})
	for _, id := range []int{-1, 258, 259, math.MaxInt, math.MinInt} {
		if s, ok := x.Bytes(id); s != "" || ok {
			t.Errorf("Bytes of %d: %q, %v", id, s, ok)
		}
		if m, ok := x.Parents(id); m != (api.Merge{}) || ok {
			t.Errorf("Parents of %d: %v, %v", id, m, ok)
		}
		if got, ok := x.Pair(id, 'b'); got != 0 || ok {
			t.Errorf("Pair of %d and b: %d, %v", id, got, ok)
		}
	}
	for _, s := range []string{"", "ba", "bc", "abcc", "abab", strings.Repeat("a", 5000)} {
		if id, ok := x.Find(s); id != 0 || ok {
			t.Errorf("Find %q: %d, %v", s, id, ok)
		}
	}
	for _, m := range []api.Merge{{A: 'b', B: 'a'}, {A: 'a', B: 'a'}, {A: 'c', B: 256}, {A: 'a', B: 'c'}, {A: 0, B: 0}} {
		if id, ok := x.Pair(m.A, m.B); id != 0 || ok {
			t.Errorf("Pair of %v: %d, %v", m, id, ok)
		}
	}
}

// P4.2: a token has one pair of parents, though its bytes could be made of others.
func TestPairIsOfParentsAlone(t *testing.T) {
	x := mustNew(t, api.Merge{A: 'a', B: 'b'}, api.Merge{A: 'b', B: 'c'}, api.Merge{A: 256, B: 'c'})
	if id, ok := x.Pair('a', 257); id != 0 || ok {
		t.Errorf("a and bc: %d, %v", id, ok)
	}
	if id, ok := x.Pair(256, 'c'); id != 258 || !ok {
		t.Errorf("ab and c: %d, %v", id, ok)
	}
}

// P4.2: of a nil table, and of one that no maker answered.
func TestNoTable(t *testing.T) {
	for _, x := range []*token.Table{nil, {}} {
		for _, id := range []int{-1, 0, 'a', 255, 256} {
			if s, ok := x.Bytes(id); s != "" || ok {
				t.Errorf("Bytes of %d: %q, %v", id, s, ok)
			}
			if m, ok := x.Parents(id); m != (api.Merge{}) || ok {
				t.Errorf("Parents of %d: %v, %v", id, m, ok)
			}
			if got, ok := x.Pair(id, id); got != 0 || ok {
				t.Errorf("Pair of %d: %d, %v", id, got, ok)
			}
		}
		if id, ok := x.Find("a"); id != 0 || ok {
			t.Errorf("Find: %d, %v", id, ok)
		}
		if x.Len() != 0 || x.Longest() != 0 || len(x.Merges()) != 0 {
			t.Errorf("%d tokens, the longest of %d, %v", x.Len(), x.Longest(), x.Merges())
		}
	}
	if id, e := new(token.Table).Add(api.Merge{A: 'a', B: 'b'}); id != 0 || e == api.OK {
		t.Errorf("Add: %d, %d", id, e)
	}
}

// Rule 4: what is handed in is neither changed nor kept, and what is answered is new.
func TestMemory(t *testing.T) {
	room := []api.Merge{{A: 'a', B: 'b'}, {A: 256, B: 'c'}, {A: 7, B: 7}}
	l := room[:2]
	x := mustNew(t, l...)
	if _, e := x.Add(api.Merge{A: 'x', B: 'y'}); e != api.OK {
		t.Fatal(e)
	}
	if !slices.Equal(room, []api.Merge{{A: 'a', B: 'b'}, {A: 256, B: 'c'}, {A: 7, B: 7}}) {
		t.Errorf("what was handed in is changed: %v", room)
	}
	l[0] = api.Merge{A: 1, B: 1}
	got := x.Merges()
	got[1] = api.Merge{A: 2, B: 2}
	_ = append(got[:2], api.Merge{A: 3, B: 3})
	mustBe(t, x, []api.Merge{{A: 'a', B: 'b'}, {A: 256, B: 'c'}, {A: 'x', B: 'y'}})
	before := x.Merges()
	x.Add(api.Merge{A: 'q', B: 'q'})
	if len(before) != 3 {
		t.Errorf("what was answered has changed: %v", before)
	}
}
