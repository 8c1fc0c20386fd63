package grow_test

import (
	"math/rand"
	"slices"
	"strings"
	"testing"

	"ligature/api"
	"ligature/chain"
	"ligature/grow"
	"ligature/token"
)

// made is what is made of bytes, by the words of layer 5 alone.
func made(merges []api.Merge, s string) []int {
	var row []int
	for i := range len(s) {
		row = append(row, int(s[i]))
	}
	for i, m := range merges {
		var next []int
		for at := 0; at < len(row); at++ {
			if at+1 < len(row) && (api.Merge{A: row[at], B: row[at+1]}) == m {
				next = append(next, 256+i)
				at++
			} else {
				next = append(next, row[at])
			}
		}
		row = next
	}
	return row
}

// imported is the merges of tokens told by their bytes, the place and the error, by the words of the document alone.
func imported(l []string) ([]api.Merge, int, api.Errno) {
	var merges []api.Merge
	for i, s := range l {
		row := made(merges, s)
		switch {
		case len(row) != 2:
			return nil, i, api.ErrForm
		case len(s) > 64:
			return nil, i, api.ErrLong
		case len(merges) >= 744:
			return nil, i, api.ErrLimit
		}
		merges = append(merges, api.Merge{A: row[0], B: row[1]})
	}
	return merges, len(l), api.OK
}

// mustImport holds Import against the document.
func mustImport(t *testing.T, l ...string) *token.Table {
	t.Helper()
	merges, place, want := imported(l)
	x, n, e := grow.Import(l...)
	if n != place || e != want || (x == nil) != (want != api.OK) {
		t.Fatalf("Import of %.200q: %v, %d, %d: want %d, %d", l, x != nil, n, e, place, want)
	}
	if x != nil && !slices.Equal(x.Merges(), merges) {
		t.Fatalf("Import of %q: %v: want %v", l, x.Merges(), merges)
	}
	return x
}

func mustFail(t *testing.T, wantPlace int, want api.Errno, l ...string) {
	t.Helper()
	if x, n, e := grow.Import(l...); x != nil || n != wantPlace || e != want {
		t.Errorf("Import of %.200q: %v, %d, %d: want %d, %d", l, x != nil, n, e, wantPlace, want)
	}
	mustImport(t, l...)
}

func tableOf(t *testing.T, merges ...api.Merge) *token.Table {
	t.Helper()
	x, n, e := token.New(merges...)
	if e != api.OK {
		t.Fatalf("merge %d: error %d", n, e)
	}
	return x
}

// wide is 744 texts of two bytes each: with them a table is full.
func wide() []string {
	var l []string
	for i := range 744 {
		l = append(l, string([]byte{byte(i / 256), byte(i)}))
	}
	return l
}

// P7.1: the chapter's examples, and no tokens at all.
func TestExamples(t *testing.T) {
	x := mustImport(t, "ab", "abc")
	if !slices.Equal(x.Merges(), []api.Merge{{A: 'a', B: 'b'}, {A: 256, B: 'c'}}) {
		t.Errorf("%v", x.Merges())
	}
	mustFail(t, 0, api.ErrForm, "abc")
	if x := mustImport(t); x.Len() != 256 || len(grow.Export(x)) != 0 || !grow.Plain(x) {
		t.Errorf("%d tokens of none", x.Len())
	}
}

// P7.1: what is made of it isn't just two: none, one, three.
func TestImportOfForm(t *testing.T) {
	mustFail(t, 0, api.ErrForm, "")
	mustFail(t, 0, api.ErrForm, "a")
	mustFail(t, 0, api.ErrForm, "abc", "ab")
	mustFail(t, 1, api.ErrForm, "ab", "ab") // made of it is itself: one
	mustFail(t, 1, api.ErrForm, "ab", "abcd", "")
	mustFail(t, 2, api.ErrForm, "bc", "ab", "abcc") // a, bc, c
	mustFail(t, 3, api.ErrForm, "ab", "abc", "bc", "a")
	mustFail(t, 0, api.ErrForm, strings.Repeat("a", 5000))
	mustImport(t, "bc", "ab", "abc") // a and bc, though ab and c would be nearer
	mustImport(t, "\xff\x00", "\xff\x00\xff", "é")
}

// halves is texts of a whose lengths double, each made of the one ahead of it twice.
func halves(n int) []string {
	var l []string
	for i := range n {
		l = append(l, strings.Repeat("a", 2<<i))
	}
	return l
}

// P7.1: what can't be added has Add's error.
func TestImportOfWhatCantBeAdded(t *testing.T) {
	long := halves(6)
	if x := mustImport(t, long...); x.Longest() != 64 {
		t.Errorf("the longest of %d", x.Longest())
	}
	mustFail(t, 6, api.ErrLong, append(slices.Clone(long), strings.Repeat("a", 65))...)
	mustFail(t, 6, api.ErrLong, append(slices.Clone(long), strings.Repeat("a", 128))...)
	mustFail(t, 6, api.ErrForm, append(slices.Clone(long), strings.Repeat("a", 129))...)
	mustFail(t, 6, api.ErrForm, append(slices.Clone(long), strings.Repeat("a", 67))...)
	full := wide()
	if x := mustImport(t, full...); x.Len() != 1000 {
		t.Errorf("%d tokens", x.Len())
	}
	mustFail(t, 744, api.ErrLimit, append(slices.Clone(full), "zz")...)
	mustFail(t, 744, api.ErrForm, append(slices.Clone(full), "xyz")...)
	mustFail(t, 744, api.ErrForm, append(slices.Clone(full), full[9])...)
	both := append(slices.Clone(long), full[:738]...)
	mustFail(t, 744, api.ErrLong, append(slices.Clone(both), strings.Repeat("a", 96))...)
}

// P7.1, P7.3: random lists, held against the words of the document; what is imported is plain, and each token is made of its bytes.
func TestRandomLists(t *testing.T) {
	longest, failed := 0, 0
	for seed := range int64(60) {
		r := rand.New(rand.NewSource(seed))
		var l []string
		for range 40 {
			text := pick(r, l) + pick(r, l)
			if _, _, e := imported(append(slices.Clone(l), text)); e == api.OK || r.Intn(60) == 0 {
				l = append(l, text)
			}
		}
		x := mustImport(t, l...)
		if x == nil {
			failed++
			continue
		}
		longest = max(longest, x.Longest())
		if !grow.Plain(x) || !slices.Equal(grow.Export(x), l) {
			t.Fatalf("not plain: %q", l)
		}
		for i, s := range l {
			if got := chain.Encode(x, s); !slices.Equal(got, []int{256 + i}) {
				t.Fatalf("of %q by %q: %v", s, l, got)
			}
		}
	}
	if longest < 16 || failed < 5 || failed > 50 {
		t.Errorf("the lists are too plain to tell anything: %d, %d", longest, failed)
	}
}

func pick(r *rand.Rand, l []string) string {
	if len(l) > 0 && r.Intn(3) > 0 {
		return l[r.Intn(len(l))]
	}
	return string(rune('a' + r.Intn(3)))
}

// P7.1: a spec's table is that of its tokens, or of its merges; the other ones aren't looked at.
func TestLoad(t *testing.T) {
	ranked := api.Spec{Ranked: true, Tokens: []string{"ab", "abc"}, Merges: []api.Merge{{A: -1, B: -1}}}
	if x, n, e := grow.Load(ranked); n != 2 || e != api.OK || !slices.Equal(grow.Export(x), []string{"ab", "abc"}) {
		t.Errorf("ranks: %d, %d", n, e)
	}
	merged := api.Spec{Tokens: []string{"wrong"}, Merges: []api.Merge{{A: 'b', B: 'c'}, {A: 'a', B: 'b'}, {A: 257, B: 'c'}}}
	if x, n, e := grow.Load(merged); n != 3 || e != api.OK || !slices.Equal(x.Merges(), merged.Merges) {
		t.Errorf("merges: %d, %d", n, e)
	}
	for _, s := range []api.Spec{{}, {Ranked: true}} {
		if x, n, e := grow.Load(s); x.Len() != 256 || n != 0 || e != api.OK {
			t.Errorf("of none: %d, %d", n, e)
		}
	}
}

// P7.1: of a spec that can't be loaded: the place, and why.
func TestLoadOfWrong(t *testing.T) {
	for _, c := range []struct {
		s     api.Spec
		place int
		want  api.Errno
	}{
		{api.Spec{Ranked: true, Tokens: []string{"ab", "xyz"}}, 1, api.ErrForm},
		{api.Spec{Ranked: true, Tokens: append(halves(6), strings.Repeat("a", 66))}, 6, api.ErrLong},
		{api.Spec{Merges: []api.Merge{{A: 'a', B: 'b'}, {A: 'a', B: 257}}}, 1, api.ErrId},
		{api.Spec{Merges: []api.Merge{{A: 'a', B: 'b'}, {A: 'b', B: 'b'}, {A: 'a', B: 'b'}}}, 2, api.ErrTwice},
	} {
		if x, n, e := grow.Load(c.s); x != nil || n != c.place || e != c.want {
			t.Errorf("%v: %d, %d: want %d, %d", c.s, n, e, c.place, c.want)
		}
	}
}

// P7.2: the bytes of all above 255, and whether they can be imported with the same parents.
func TestExportAndPlain(t *testing.T) {
	for _, c := range []struct {
		merges []api.Merge
		texts  []string
		plain  bool
	}{
		{nil, nil, true},
		{[]api.Merge{{A: 'a', B: 'b'}, {A: 256, B: 'c'}, {A: 'b', B: 'c'}}, []string{"ab", "abc", "bc"}, true},
		{[]api.Merge{{A: 'b', B: 'c'}, {A: 'a', B: 'b'}, {A: 257, B: 'c'}}, []string{"bc", "ab", "abc"}, false}, // a and bc would be its parents
		{[]api.Merge{{A: 'b', B: 'c'}, {A: 'a', B: 'b'}, {A: 'a', B: 256}}, []string{"bc", "ab", "abc"}, true},
		{[]api.Merge{{A: 'b', B: 'c'}, {A: 'a', B: 'b'}, {A: 'c', B: 'd'}, {A: 257, B: 258}}, []string{"bc", "ab", "cd", "abcd"}, false}, // three are made of it
		{[]api.Merge{{A: 'a', B: 'a'}, {A: 'a', B: 256}}, []string{"aa", "aaa"}, false},
		{[]api.Merge{{A: 'a', B: 'a'}, {A: 256, B: 'a'}}, []string{"aa", "aaa"}, true},
	} {
		x := tableOf(t, c.merges...)
		if got := grow.Export(x); !slices.Equal(got, c.texts) {
			t.Errorf("Export of %v: %q: want %q", c.merges, got, c.texts)
		}
		if got := grow.Plain(x); got != c.plain {
			t.Errorf("Plain of %q: %v", c.texts, got)
		}
		if !slices.Equal(x.Merges(), c.merges) {
			t.Errorf("the table has changed: %v: want %v", x.Merges(), c.merges)
		}
	}
}

// P7.2: random tables, plain ones and others, held against the words of the document.
func TestRandomTables(t *testing.T) {
	plain := 0
	for seed := range int64(200) {
		r := rand.New(rand.NewSource(seed))
		x := tableOf(t)
		some := func() int {
			if n := x.Len() - 256; n > 0 && r.Intn(3) > 0 {
				return 256 + r.Intn(n)
			}
			return 'a' + r.Intn(3)
		}
		for range 1 + r.Intn(12) {
			x.Add(api.Merge{A: some(), B: some()})
		}
		merges, _, e := imported(grow.Export(x))
		want := e == api.OK && slices.Equal(merges, x.Merges())
		if got := grow.Plain(x); got != want {
			t.Fatalf("Plain of %v: %v: want %v", x.Merges(), got, want)
		}
		if want {
			plain++
		}
	}
	if plain < 30 || plain > 170 {
		t.Errorf("%d of 200 are plain: too plain to tell anything", plain)
	}
}

// P7.2: of no table, and of one that no maker answered.
func TestNoTable(t *testing.T) {
	if grow.Plain(nil) || len(grow.Export(nil)) != 0 {
		t.Errorf("%v, %q", grow.Plain(nil), grow.Export(nil))
	}
	if len(grow.Export(&token.Table{})) != 0 {
		t.Errorf("%q", grow.Export(&token.Table{}))
	}
	grow.Plain(&token.Table{}) // it may answer what it likes, but answer it must
}

// Rule 4: what is handed in is neither changed nor kept, and what is answered is new.
func TestMemory(t *testing.T) {
	room := []string{"ab", "abc", "zz"}
	x := mustImport(t, room[:2]...)
	if !slices.Equal(room, []string{"ab", "abc", "zz"}) {
		t.Errorf("what was handed in is changed: %q", room)
	}
	room[0] = "xx"
	got := grow.Export(x)
	got[1] = "yy"
	if again := grow.Export(x); !slices.Equal(again, []string{"ab", "abc"}) {
		t.Errorf("%q", again)
	}
	y := mustImport(t, "ab", "abc")
	y.Add(api.Merge{A: 'q', B: 'q'})
	if x.Len() != 258 {
		t.Errorf("two tables are one")
	}
	s := api.Spec{Ranked: true, Tokens: []string{"ab", "abc"}}
	if z, _, _ := grow.Load(s); z.Len() != 258 || !slices.Equal(s.Tokens, []string{"ab", "abc"}) {
		t.Errorf("%d tokens, %q", z.Len(), s.Tokens)
	}
}
