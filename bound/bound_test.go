package bound_test

import (
	"math"
	"math/rand"
	"slices"
	"strings"
	"testing"

	"ligature/api"
	"ligature/bound"
)

// classOf is a byte's class, by the words of the document alone.
func classOf(classes []api.Class, b byte) int {
	for _, c := range slices.Backward(classes) {
		if c.Lo <= int(b) && int(b) <= c.Hi {
			return c.N
		}
	}
	return 0
}

// cutBetween tells whether it is cut between two bytes, by the words of the document alone.
func cutBetween(classes []api.Class, joins []api.Join, a, b byte) bool {
	j := api.Join{A: classOf(classes, a), B: classOf(classes, b)}
	return j.A != j.B && !slices.Contains(joins, j)
}

// cut is the pieces of bytes, likewise.
func cut(classes []api.Class, joins []api.Join, s string) []string {
	var l []string
	for i := range len(s) {
		if i == 0 || cutBetween(classes, joins, s[i-1], s[i]) {
			l = append(l, "")
		}
		l[len(l)-1] += s[i : i+1]
	}
	return l
}

func mustNew(t *testing.T, classes []api.Class, joins []api.Join) *bound.Table {
	t.Helper()
	x, e := bound.New(classes, joins)
	if x == nil || e != api.OK {
		t.Fatalf("New of %v, %v: %d", classes, joins, e)
	}
	return x
}

// mustBe holds every answer of a table of two bytes against the document.
func mustBe(t *testing.T, x *bound.Table, classes []api.Class, joins []api.Join) {
	t.Helper()
	for a := range 256 {
		if got, want := x.Class(byte(a)), classOf(classes, byte(a)); got != want {
			t.Fatalf("the class of %d by %v: %d: want %d", a, classes, got, want)
		}
		for b := range 256 {
			want := cutBetween(classes, joins, byte(a), byte(b))
			if got := x.Cuts(byte(a), byte(b)); got != want {
				t.Fatalf("between %d and %d by %v, %v: %v", a, b, classes, joins, got)
			}
		}
	}
}

// mustCut holds every answer of a text against the document.
func mustCut(t *testing.T, x *bound.Table, s string, want []string) {
	t.Helper()
	if got := x.Pieces(s); !slices.Equal(got, want) {
		t.Fatalf("Pieces of %q: %q: want %q", s, got, want)
	}
	if got := x.Whole(s); got != (len(want) <= 1) {
		t.Fatalf("Whole of %q: %v", s, got)
	}
}

var letters = []api.Class{{Lo: 'a', Hi: 'z', N: 1}}

// P8.1, P8.2: the chapter's example.
func TestExample(t *testing.T) {
	x := mustNew(t, letters, nil)
	mustBe(t, x, letters, nil)
	mustCut(t, x, "abc12", []string{"abc", "12"})
	joins := []api.Join{{A: 1, B: 0}}
	y := mustNew(t, letters, joins)
	mustBe(t, y, letters, joins)
	mustCut(t, y, "abc12", []string{"abc12"})
	mustCut(t, y, "12abc12", []string{"12", "abc12"}) // a join has an order
}

// P8.1: of no classes all bytes are of class 0, of no table too, and nothing is cut.
func TestNoClasses(t *testing.T) {
	for _, x := range []*bound.Table{nil, mustNew(t, nil, nil), mustNew(t, nil, []api.Join{{A: 1, B: 2}}), {}} {
		mustBe(t, x, nil, nil)
		mustCut(t, x, "", nil)
		mustCut(t, x, "a1 \x00\xff", []string{"a1 \x00\xff"})
		if x.Between("a", "1") || x.Between("", "") {
			t.Errorf("it is cut")
		}
	}
}

// P8.1: the last one of several spans counts, also one that makes it 0 again.
func TestLastSpan(t *testing.T) {
	classes := []api.Class{{Lo: 0, Hi: 255, N: 15}, {Lo: 'a', Hi: 'z', N: 1}, {Lo: 'k', Hi: 'k', N: 0}, {Lo: 'x', Hi: 255, N: 2}}
	x := mustNew(t, classes, nil)
	mustBe(t, x, classes, nil)
	for b, want := range map[byte]int{0: 15, 'a': 1, 'j': 1, 'k': 0, 'l': 1, 'w': 1, 'x': 2, 255: 2} {
		if got := x.Class(b); got != want {
			t.Errorf("%c: %d: want %d", b, got, want)
		}
	}
}

// P8.1: the edges of what is right, each alone.
func TestEdges(t *testing.T) {
	for _, c := range []api.Class{{}, {Lo: 255, Hi: 255, N: 15}, {Lo: 0, Hi: 0, N: 1}, {Lo: 0, Hi: 255, N: 0}, {Lo: 7, Hi: 8, N: 15}} {
		mustBe(t, mustNew(t, []api.Class{c}, nil), []api.Class{c}, nil)
	}
	classes := []api.Class{{Lo: 0, Hi: 99, N: 15}, {Lo: 50, Hi: 60, N: 14}}
	for _, j := range []api.Join{{}, {A: 15, B: 15}, {A: 0, B: 15}, {A: 15, B: 0}, {A: 15, B: 14}, {A: 14, B: 0}} {
		mustBe(t, mustNew(t, classes, []api.Join{j}), classes, []api.Join{j})
	}
}

// P8.1: what isn't right is told, wherever it stands; how many there are doesn't matter.
func TestNewOfWrong(t *testing.T) {
	for _, c := range []api.Class{
		{Lo: -1, Hi: 5}, {Lo: 5, Hi: 4}, {Lo: 0, Hi: 256}, {Lo: 256, Hi: 256}, {Lo: 0, Hi: 0, N: 16}, {Lo: 0, Hi: 0, N: -1},
		{Lo: math.MinInt, Hi: math.MaxInt}, {Lo: math.MaxInt, Hi: math.MaxInt}, {Lo: 0, Hi: -1}, {Lo: -2, Hi: -1}, {N: math.MaxInt}, {N: math.MinInt},
	} {
		for _, l := range [][]api.Class{{c}, {c, letters[0]}, {letters[0], c}} {
			if x, e := bound.New(l, nil); x != nil || e != api.ErrArg {
				t.Errorf("%v: %d", l, e)
			}
		}
	}
	for _, j := range []api.Join{{A: -1}, {B: -1}, {A: 16}, {B: 16}, {A: math.MinInt, B: math.MaxInt}, {A: 3, B: math.MaxInt}} {
		for _, l := range [][]api.Join{{j}, {j, {A: 1}}, {{A: 1}, j}} {
			if x, e := bound.New(letters, l); x != nil || e != api.ErrArg {
				t.Errorf("%v: %d", l, e)
			}
		}
	}
	many := make([]api.Class, 1000)
	mustBe(t, mustNew(t, many, make([]api.Join, 1000)), nil, nil)
}

// P8.2: the pieces of texts: none of no bytes, one, and many of one byte each.
func TestPieces(t *testing.T) {
	classes := []api.Class{{Lo: '0', Hi: '9', N: 1}, {Lo: ' ', Hi: ' ', N: 2}}
	x := mustNew(t, classes, []api.Join{{A: 2, B: 0}})
	mustCut(t, x, "", nil)
	mustCut(t, x, "a", []string{"a"})
	mustCut(t, x, "5", []string{"5"})
	mustCut(t, x, "a5", []string{"a", "5"})
	mustCut(t, x, "ab 12 cd", []string{"ab", " ", "12", " cd"})
	mustCut(t, x, "  a  1", []string{"  a", "  ", "1"})
	mustCut(t, x, strings.Repeat("x", 5000), []string{strings.Repeat("x", 5000)})
	var want []string
	for range 2000 {
		want = append(want, "a", "1")
	}
	mustCut(t, x, strings.Repeat("a1", 2000), want)
}

// P8.2: between two texts their nearest bytes count alone.
func TestBetween(t *testing.T) {
	x := mustNew(t, letters, []api.Join{{A: 0, B: 1}})
	for _, c := range []struct {
		a, b string
		want bool
	}{
		{"a", "1", true}, {"1", "a", false}, {"1a", "1a", true}, {"a1", "a1", false}, {"a1a", "b1", false}, {"1", "1", false},
		{"", "1", false}, {"a", "", false}, {"", "", false}, {"a1", "", false}, {"", "a1", false},
	} {
		if got := x.Between(c.a, c.b); got != c.want {
			t.Errorf("between %q and %q: %v", c.a, c.b, got)
		}
	}
}

// P8.1, P8.2: random tables and texts, held against the words of the document.
func TestRandom(t *testing.T) {
	for seed := range int64(40) {
		r := rand.New(rand.NewSource(seed))
		few := 2 + r.Intn(15)
		var classes []api.Class
		for range r.Intn(12) {
			lo := r.Intn(256)
			classes = append(classes, api.Class{Lo: lo, Hi: lo + r.Intn(256-lo), N: r.Intn(few)})
		}
		var joins []api.Join
		for range r.Intn(30) {
			joins = append(joins, api.Join{A: r.Intn(few), B: r.Intn(few)})
		}
		x := mustNew(t, classes, joins)
		if seed < 10 {
			mustBe(t, x, classes, joins)
		}
		for range 40 {
			b := make([]byte, r.Intn(30))
			r.Read(b)
			s := string(b)
			mustCut(t, x, s, cut(classes, joins, s))
			i := r.Intn(len(s) + 1)
			want := i > 0 && i < len(s) && cutBetween(classes, joins, s[max(i-1, 0)], s[min(i, len(s)-1)])
			if got := x.Between(s[:i], s[i:]); got != want {
				t.Fatalf("between %q and %q: %v", s[:i], s[i:], got)
			}
		}
	}
}

// Rule 4: what is handed in is neither changed nor kept, and what is answered is new.
func TestMemory(t *testing.T) {
	classes := []api.Class{{Lo: 'a', Hi: 'z', N: 1}, {Lo: '0', Hi: '9', N: 2}}
	joins := []api.Join{{A: 1, B: 2}, {A: 5, B: 5}}
	x := mustNew(t, classes[:1], joins[:1])
	if !slices.Equal(classes, []api.Class{{Lo: 'a', Hi: 'z', N: 1}, {Lo: '0', Hi: '9', N: 2}}) || !slices.Equal(joins, []api.Join{{A: 1, B: 2}, {A: 5, B: 5}}) {
		t.Errorf("what was handed in is changed: %v, %v", classes, joins)
	}
	classes[0].N, joins[0].B = 9, 0
	mustBe(t, x, letters, []api.Join{{A: 1, B: 2}})
	got := x.Pieces("a1")
	got[0] = "z"
	mustCut(t, x, "a1", []string{"a", "1"})
}
