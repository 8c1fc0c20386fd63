package spec_test

import (
	"fmt"
	"math"
	"math/rand"
	"regexp"
	"slices"
	"strconv"
	"strings"
	"testing"

	"ligature/api"
	"ligature/spec"
)

// full is a right spec that has as many of all as may be, at the edges of what may be.
func full(ranked bool) api.Spec {
	s := api.Spec{Ranked: ranked}
	for i := range 744 {
		if ranked {
			s.Tokens = append(s.Tokens, string([]byte{byte(i), byte(i >> 8)}))
		} else {
			s.Merges = append(s.Merges, api.Merge{A: i, B: 999 - i})
		}
	}
	for i := range 32 {
		s.Specials = append(s.Specials, api.Special{Id: 1<<30 - i, Text: strings.Repeat("\xff", 2*i+1)})
	}
	for i := range 64 {
		s.Classes = append(s.Classes, api.Class{Lo: i, Hi: 255 - i, N: i % 16})
		s.Joins = append(s.Joins, api.Join{A: i % 16, B: i / 4})
	}
	return s
}

// small is a right spec with some of all.
func small(ranked bool) api.Spec {
	s := api.Spec{
		Ranked:   ranked,
		Specials: []api.Special{{Id: 300, Text: "<|>"}, {Id: 0, Text: " \n"}},
		Classes:  []api.Class{{Lo: 48, Hi: 57, N: 1}, {Lo: 0, Hi: 255, N: 15}},
		Joins:    []api.Join{{A: 0, B: 1}, {A: 15, B: 15}},
	}
	if ranked {
		s.Tokens = []string{"ab", "\x00\xff\n"}
	} else {
		s.Merges = []api.Merge{{A: 97, B: 98}, {A: 256, B: 0}}
	}
	return s
}

func mustPrint(t *testing.T, s api.Spec) string {
	t.Helper()
	text, e := spec.Print(s)
	if e != api.OK || text == "" {
		t.Fatalf("Print of %v: %q, %d", s, text, e)
	}
	return text
}

// mustBe tells that a text is that of a spec, there and back.
func mustBe(t *testing.T, s api.Spec, text string) {
	t.Helper()
	if !spec.Right(s) {
		t.Errorf("not right: %v", s)
	}
	if got, e := spec.Print(s); got != text || e != api.OK {
		t.Errorf("Print of %v: %q, %d: want %q", s, got, e, text)
	}
	if got, line, e := spec.Parse(text); !same(got, s) || line != 0 || e != api.OK {
		t.Errorf("Parse of %q: %v, %d, %d: want %v", text, got, line, e, s)
	}
}

func mustFail(t *testing.T, text string, wantLine int, want api.Errno) {
	t.Helper()
	if got, line, e := spec.Parse(text); !same(got, api.Spec{}) || line != wantLine || e != want {
		t.Errorf("Parse of %.80q: %v, %d, %d: want %d, %d", text, got, line, e, wantLine, want)
	}
}

// same holds two specs against each other by all that can be seen of them.
func same(a, b api.Spec) bool {
	return fmt.Sprintf("%#v", plain(a)) == fmt.Sprintf("%#v", plain(b))
}

// plain is a spec whose empty lists are all of one kind.
func plain(s api.Spec) api.Spec {
	return api.Spec{
		Ranked:   s.Ranked,
		Merges:   append([]api.Merge{}, s.Merges...),
		Tokens:   append([]string{}, s.Tokens...),
		Specials: append([]api.Special{}, s.Specials...),
		Classes:  append([]api.Class{}, s.Classes...),
		Joins:    append([]api.Join{}, s.Joins...),
	}
}

// P6.1, P6.2: the texts as the document tells them.
func TestTexts(t *testing.T) {
	mustBe(t, api.Spec{}, "vocab merges\n")
	mustBe(t, api.Spec{Ranked: true}, "vocab ranks\n")
	mustBe(t, api.Spec{Merges: []api.Merge{{A: 97, B: 98}}, Specials: []api.Special{{Id: 300, Text: "<|>"}}}, "vocab merges\nmerge 97 98\nspecial 300 3c7c3e\n")
	mustBe(t, small(false), "vocab merges\nmerge 97 98\nmerge 256 0\nspecial 300 3c7c3e\nspecial 0 200a\nclass 48 57 1\nclass 0 255 15\njoin 0 1\njoin 15 15\n")
	mustBe(t, small(true), "vocab ranks\ntoken 6162\ntoken 00ff0a\nspecial 300 3c7c3e\nspecial 0 200a\nclass 48 57 1\nclass 0 255 15\njoin 0 1\njoin 15 15\n")
	mustBe(t, api.Spec{Joins: []api.Join{{}}}, "vocab merges\njoin 0 0\n")
	mustBe(t, api.Spec{Ranked: true, Classes: []api.Class{{}}}, "vocab ranks\nclass 0 0 0\n")
}

// P6.1: what a spec doesn't ask for (that things are unlike, that parents are there) isn't looked at.
func TestLikeThingsAreRight(t *testing.T) {
	s := api.Spec{
		Merges:   []api.Merge{{A: 999, B: 999}, {A: 999, B: 999}},
		Specials: []api.Special{{Id: 5, Text: "x"}, {Id: 5, Text: "x"}},
		Classes:  []api.Class{{Lo: 1, Hi: 1, N: 1}, {Lo: 1, Hi: 1, N: 1}},
		Joins:    []api.Join{{A: 3, B: 3}, {A: 3, B: 3}},
	}
	mustBe(t, s, "vocab merges\nmerge 999 999\nmerge 999 999\nspecial 5 78\nspecial 5 78\nclass 1 1 1\nclass 1 1 1\njoin 3 3\njoin 3 3\n")
}

// P6.1, P6.3: the edges of what may be.
func TestEdges(t *testing.T) {
	for _, ranked := range []bool{false, true} {
		s := full(ranked)
		mustBe(t, s, mustPrint(t, s))
	}
	for _, n := range []int{2, 3, 63, 64} {
		s := api.Spec{Ranked: true, Tokens: []string{strings.Repeat("z", n)}}
		mustBe(t, s, "vocab ranks\ntoken "+strings.Repeat("7a", n)+"\n")
	}
	for _, n := range []int{1, 2, 64} {
		s := api.Spec{Specials: []api.Special{{Id: 1 << 30, Text: strings.Repeat("\x00", n)}}}
		mustBe(t, s, "vocab merges\nspecial 1073741824 "+strings.Repeat("00", n)+"\n")
	}
}

// wrongs is ways in which a right spec becomes a wrong one.
func wrongs() map[string]func(s *api.Spec) {
	l := map[string]func(s *api.Spec){
		"merges and tokens": func(s *api.Spec) {
			s.Merges, s.Tokens = []api.Merge{{A: 97, B: 98}}, []string{"ab"}
		},
		"the other kind": func(s *api.Spec) { s.Ranked = !s.Ranked },
		"no bytes of a special": func(s *api.Spec) {
			s.Specials[1].Text = ""
		},
		"65 bytes of a special": func(s *api.Spec) { s.Specials[1].Text = strings.Repeat("a", 65) },
		"33 specials":           func(s *api.Spec) { s.Specials = append(full(false).Specials, s.Specials[0]) },
		"65 classes":            func(s *api.Spec) { s.Classes = append(full(false).Classes, s.Classes[0]) },
		"65 joins":              func(s *api.Spec) { s.Joins = append(full(false).Joins, s.Joins[0]) },
		"a span from 9 to 8":    func(s *api.Spec) { s.Classes[1] = api.Class{Lo: 9, Hi: 8} },
		"a span from 255 to 0":  func(s *api.Spec) { s.Classes[0] = api.Class{Lo: 255, Hi: 0} },
		"a span ahead of 0":     func(s *api.Spec) { s.Classes[0] = api.Class{Lo: -2, Hi: -1} },
		"745 of these": func(s *api.Spec) {
			if s.Ranked {
				s.Tokens = append(full(true).Tokens, "ab")
			} else {
				s.Merges = append(full(false).Merges, api.Merge{A: 97, B: 98})
			}
		},
	}
	for _, c := range []struct {
		name string
		most int
		of   func(s *api.Spec) *int
	}{
		{"special", 1 << 30, func(s *api.Spec) *int { return &s.Specials[0].Id }},
		{"last special", 1 << 30, func(s *api.Spec) *int { return &s.Specials[1].Id }},
		{"Lo", 255, func(s *api.Spec) *int { return &s.Classes[1].Lo }},
		{"Hi", 255, func(s *api.Spec) *int { return &s.Classes[1].Hi }},
		{"N", 15, func(s *api.Spec) *int { return &s.Classes[1].N }},
		{"first N", 15, func(s *api.Spec) *int { return &s.Classes[0].N }},
		{"join A", 15, func(s *api.Spec) *int { return &s.Joins[1].A }},
		{"join B", 15, func(s *api.Spec) *int { return &s.Joins[0].B }},
	} {
		for _, n := range []int{-1, c.most + 1, math.MaxInt, math.MinInt} {
			l[c.name+" "+strconv.Itoa(n)] = func(s *api.Spec) { *c.of(s) = n }
		}
	}
	return l
}

func mustBeWrong(t *testing.T, name string, s api.Spec) {
	t.Helper()
	if spec.Right(s) {
		t.Errorf("%s: right", name)
	}
	if text, e := spec.Print(s); text != "" || e != api.ErrArg {
		t.Errorf("%s: Print: %q, %d", name, text, e)
	}
}

// P6.1: what isn't right, isn't printed.
func TestWrongSpecs(t *testing.T) {
	for name, spoil := range wrongs() {
		for _, ranked := range []bool{false, true} {
			s := small(ranked)
			spoil(&s)
			mustBeWrong(t, name, s)
		}
	}
	for _, n := range []int{-1, 1000, math.MaxInt, math.MinInt} {
		for place := range 2 {
			s, other := small(false), small(false)
			s.Merges[place].A, other.Merges[place].B = n, n
			mustBeWrong(t, "A "+strconv.Itoa(n), s)
			mustBeWrong(t, "B "+strconv.Itoa(n), other)
		}
	}
	for _, n := range []int{0, 1, 65, 5000} {
		for place := range 2 {
			s := small(true)
			s.Tokens[place] = strings.Repeat("a", n)
			mustBeWrong(t, "a token of "+strconv.Itoa(n), s)
		}
	}
}

// sized is a ranked spec whose text has 59986 bytes and the digits of a special token's Id.
func sized(id int) api.Spec {
	s := api.Spec{Ranked: true, Specials: []api.Special{{Id: id, Text: "a"}}}
	left := 27387 // bytes of 743 tokens
	for i := range 743 {
		n := left / (743 - i)
		s.Tokens = append(s.Tokens, strings.Repeat("q", n))
		left -= n
	}
	return s
}

// P6.1: a text has 60000 bytes at most.
func TestPrintOfLong(t *testing.T) {
	if text, e := spec.Print(sized(1)); len(text) != 60000 || e != api.OK {
		t.Errorf("%d bytes, %d", len(text), e)
	}
	if text, e := spec.Print(sized(10)); text != "" || e != api.ErrLong {
		t.Errorf("60001 bytes: %.40q, %d", text, e)
	}
	s := api.Spec{Ranked: true}
	for range 744 {
		s.Tokens = append(s.Tokens, strings.Repeat("a", 64))
	}
	if text, e := spec.Print(s); !spec.Right(s) || text != "" || e != api.ErrLong {
		t.Errorf("as long as may be: %.40q, %d", text, e)
	}
	s.Joins = []api.Join{{A: 16}}
	mustBeWrong(t, "long and wrong", s)
}

// P6.2: of more than 60000 bytes nothing else is told.
func TestParseOfLong(t *testing.T) {
	text := mustPrint(t, sized(1))
	mustBe(t, sized(1), text)
	more := strings.Replace(text, "special 1 61", "special 10 61", 1)
	if len(more) != 60001 {
		t.Fatalf("%d bytes", len(more))
	}
	mustFail(t, more, 0, api.ErrLong)
	mustFail(t, text+"x", 0, api.ErrLong)
	mustFail(t, strings.Repeat("\n", 60001), 0, api.ErrLong)
	mustFail(t, strings.Repeat("x", 70000), 0, api.ErrLong)
	mustFail(t, strings.Repeat("x", 60000), 1, api.ErrForm)
	mustFail(t, strings.Repeat(" ", 60000), 1, api.ErrForm)
	mustFail(t, strings.Repeat("\n", 60000), 1, api.ErrForm)
	mustFail(t, "vocab merges\n"+strings.Repeat("\n", 60000-13), 2, api.ErrForm)
	mustFail(t, text[:59999]+"x", 745, api.ErrForm)
}

// P6.2: the first line.
func TestHeads(t *testing.T) {
	for _, text := range []string{
		"", "\n", "\n\n", " \n", "vocab\n", "vocab \n", "vocab merges", "vocab ranks", "vocab merge\n", "vocab rank\n", "vocab  merges\n", " vocab merges\n", "vocab merges \n",
		"vocab merges ranks\n", "Vocab merges\n", "vocab Merges\n", "vocab\tmerges\n", "vocab merges\r\n", "vocab merges\x00\n", "merges\n", "merge 97 98\n", "merge 97 98\nvocab merges\n",
		"\nvocab merges\n", "vocab -\n", "token 6162\n", "vocab ranks\vtoken 6162\n", "\ufeffvocab ranks\n",
	} {
		mustFail(t, text, 1, api.ErrForm)
	}
	mustFail(t, "vocab merges\nvocab merges\n", 2, api.ErrForm)
	mustFail(t, "vocab merges\nvocab ranks\n", 2, api.ErrForm)
	mustFail(t, "vocab merges\nmerge 1 2\nvocab merges\n", 3, api.ErrForm)
}

// P6.2: a line that isn't ended is none.
func TestUnended(t *testing.T) {
	text := mustPrint(t, small(true))
	lines := strings.SplitAfter(text, "\n")
	begin := ""
	for i, line := range lines[:len(lines)-1] {
		for n := 1; n < len(line); n++ {
			mustFail(t, begin+line[:n], i+1, api.ErrForm)
		}
		begin += line
		if s, place, e := spec.Parse(begin); e != api.OK || place != 0 || !spec.Right(s) || mustPrint(t, s) != begin {
			t.Errorf("%q: %v, %d, %d", begin, s, place, e)
		}
		mustFail(t, begin+"\n", i+2, api.ErrForm)
		mustFail(t, begin+"x", i+2, api.ErrForm)
		mustFail(t, begin+"\njoin 1 1", i+2, api.ErrForm)
	}
}

// P6.2: lines that tell nothing right.
func TestWrongLines(t *testing.T) {
	long := strings.Repeat("61", 65)
	for _, c := range []struct {
		head  string
		lines []string
	}{
		{"merges", []string{
			"merge", "merge ", "merge 1", "merge 1 ", "merge 1 2 3", "merge 1 2 ", "merge  1 2", "merge 1  2", " merge 1 2", "merge -1 2", "merge 1 -1", "merge 1000 2", "merge 2 1000", "merge 01 2", "merge 2 00",
			"merge +1 2", "merge 1 2\r", "merge a b", "merge 1,2", "merge\t1 2", "merge - 1", "merge 99999999999999999999 1", "merge 1 18446744073709551617", "merge 0x1 1", "merge 1_0 1", "merge ١ 1", "Merge 1 2", "merges 1 2",
			"token 6162", "ranks", "vocab", "comment", "# x", "-",
		}},
		{"ranks", []string{
			"token", "token ", "token -", "token 61", "token 616", "token 61626", "token " + long, "token 6162 6364", "token 6162 ", "token 61 62", "token AB12", "token 6A6b", "token 0x61", "token zz61", "token ab cd", "Token 6162", "tokens 6162",
			"merge 1 2",
		}},
		{"merges", []string{
			"special", "special 1", "special 1 ", "special 1 -", "special 1 6", "special 1 6A", "special 1 61 61", "special 1 61 ", "special -1 61", "special 01 61", "special 1073741825 61", "special 9223372036854775808 61", "special 61", "special 1 " + long, "special - 61", "specials 1 61",
			"class", "class 1", "class 1 2", "class 1 2 3 4", "class 2 1 3", "class -1 1 3", "class 0 256 3", "class 256 256 3", "class 0 0 16", "class 0 0 -1", "class 00 1 1", "class 0 1 1 ", "class a z 1",
			"join", "join 1", "join 1 2 3", "join 16 0", "join 0 16", "join -1 0", "join 0 -0", "join 1 ", "join 0 01", "joint 0 1",
			"join 0 1 \x00", "\x00", "\xff", "vocab merges join 0 1", "join 0 1\tjoin 0 1",
		}},
	} {
		for _, line := range c.lines {
			mustFail(t, "vocab "+c.head+"\n"+line+"\n", 2, api.ErrForm)
			mustFail(t, "vocab "+c.head+"\n"+line+"\nvocab\n", 2, api.ErrForm)
			if c.head == "merges" {
				mustFail(t, "vocab merges\nmerge 1 2\nmerge 3 4\n"+line+"\njoin 1 1\n", 4, api.ErrForm)
			}
		}
	}
}

// P6.2: each kind stands behind those that the document names ahead of it.
func TestOrderOfLines(t *testing.T) {
	lines := []string{"special 1 61", "class 1 2 3", "join 4 5"}
	for _, first := range [][2]string{{"vocab merges", "merge 1 2"}, {"vocab ranks", "token 6162"}} {
		all := append([]string{first[1]}, lines...)
		for i, a := range all {
			for k, b := range all {
				text := first[0] + "\n" + a + "\n" + b + "\n"
				if i > k {
					mustFail(t, text, 3, api.ErrForm)
				} else if s, line, e := spec.Parse(text); e != api.OK || line != 0 || mustPrint(t, s) != text {
					t.Errorf("%q: %v, %d, %d", text, s, line, e)
				}
			}
		}
	}
}

// P6.2: the line with which there are too many.
func TestTooManyLines(t *testing.T) {
	for _, c := range []struct {
		head, line string
		most       int
	}{
		{"vocab merges", "merge 1 2", 744},
		{"vocab ranks", "token 6162", 744},
		{"vocab merges", "special 1 61", 32},
		{"vocab ranks", "special 1 61", 32},
		{"vocab merges", "class 1 2 3", 64},
		{"vocab merges", "join 1 2", 64},
		{"vocab merges\nmerge 1 2\nspecial 1 61\nclass 1 2 3", "join 1 2", 64},
	} {
		text := c.head + "\n" + strings.Repeat(c.line+"\n", c.most)
		if s, line, e := spec.Parse(text); e != api.OK || line != 0 || mustPrint(t, s) != text {
			t.Errorf("%d of %s: %d, %d", c.most, c.line, line, e)
		}
		place := strings.Count(text, "\n") + 1
		mustFail(t, text+c.line+"\n", place, api.ErrForm)
		mustFail(t, text+c.line+"\n"+c.line+"\nx", place, api.ErrForm)
	}
}

// P6.1: two are the same if all that they tell is.
func TestSame(t *testing.T) {
	changes := map[string]func(s *api.Spec){
		"ranked":         func(s *api.Spec) { s.Ranked = !s.Ranked },
		"A":              func(s *api.Spec) { s.Merges[1].A++ },
		"B":              func(s *api.Spec) { s.Merges[0].B++ },
		"a merge more":   func(s *api.Spec) { s.Merges = append(s.Merges, api.Merge{}) },
		"merges turned":  func(s *api.Spec) { slices.Reverse(s.Merges) },
		"no merges":      func(s *api.Spec) { s.Merges = nil },
		"a token":        func(s *api.Spec) { s.Tokens[1] = "\x00\xff\r" },
		"a token less":   func(s *api.Spec) { s.Tokens = s.Tokens[:1] },
		"no tokens":      func(s *api.Spec) { s.Tokens = nil },
		"an Id":          func(s *api.Spec) { s.Specials[1].Id++ },
		"a Text":         func(s *api.Spec) { s.Specials[0].Text += "x" },
		"a special less": func(s *api.Spec) { s.Specials = s.Specials[1:] },
		"Lo":             func(s *api.Spec) { s.Classes[0].Lo++ },
		"Hi":             func(s *api.Spec) { s.Classes[1].Hi-- },
		"N":              func(s *api.Spec) { s.Classes[0].N++ },
		"a class more":   func(s *api.Spec) { s.Classes = append(s.Classes, api.Class{}) },
		"join A":         func(s *api.Spec) { s.Joins[0].A++ },
		"join B":         func(s *api.Spec) { s.Joins[1].B-- },
		"joins turned":   func(s *api.Spec) { slices.Reverse(s.Joins) },
	}
	whole := func() api.Spec { // it isn't right, and all the same it is what it is
		s := small(true)
		s.Merges = small(false).Merges
		return s
	}
	for name, change := range changes {
		a, b := whole(), whole()
		if !spec.Same(a, b) || !spec.Same(b, a) {
			t.Fatal("not the same as itself")
		}
		change(&b)
		if spec.Same(a, b) || spec.Same(b, a) {
			t.Errorf("%s: the same", name)
		}
		if !spec.Same(b, b) {
			t.Errorf("%s: not the same as itself", name)
		}
	}
	empty := api.Spec{Merges: []api.Merge{}, Tokens: []string{}, Specials: []api.Special{}, Classes: []api.Class{}, Joins: []api.Join{}}
	if !spec.Same(empty, api.Spec{}) || !spec.Same(api.Spec{}, empty) {
		t.Error("empty lists tell something")
	}
	mustBe(t, empty, "vocab merges\n")
}

const number = `(0|[1-9][0-9]*)`

// forms is how the lines of each kind look, and the most that each of their numbers may be.
var forms = []struct {
	kind string
	form *regexp.Regexp
	most []int
}{
	{"M", regexp.MustCompile(`^vocab merges\n$`), nil},
	{"R", regexp.MustCompile(`^vocab ranks\n$`), nil},
	{"m", regexp.MustCompile(`^merge ` + number + ` ` + number + `\n$`), []int{999, 999}},
	{"t", regexp.MustCompile(`^token (?:[0-9a-f]{2}){2,64}\n$`), nil},
	{"s", regexp.MustCompile(`^special ` + number + ` (?:[0-9a-f]{2}){1,64}\n$`), []int{1 << 30}},
	{"c", regexp.MustCompile(`^class ` + number + ` ` + number + ` ` + number + `\n$`), []int{255, 255, 15}},
	{"j", regexp.MustCompile(`^join ` + number + ` ` + number + `\n$`), []int{15, 15}},
}

// order is the kinds of lines that a right spec's text may begin with.
var order = regexp.MustCompile(`^(Mm{0,744}|Rt{0,744})s{0,32}c{0,64}j{0,64}$`)

// firstWrong is the first line with which no right spec's text begins, by the words of the document alone; 0, if there is none.
func firstWrong(text string) int {
	kinds := ""
	lines := strings.SplitAfter(text, "\n")
	if text != "" && lines[len(lines)-1] == "" {
		lines = lines[:len(lines)-1]
	}
	for i, line := range lines {
		kind := "x"
		for _, f := range forms {
			found := f.form.FindStringSubmatch(line)
			if found == nil {
				continue
			}
			kind = f.kind
			var l []int
			for k, most := range f.most {
				n, err := strconv.Atoi(found[k+1])
				if err != nil || n > most {
					kind = "x"
				}
				l = append(l, n)
			}
			if kind == "c" && l[0] > l[1] {
				kind = "x"
			}
		}
		kinds += kind
		if !order.MatchString(kinds) {
			return i + 1
		}
	}
	return 0
}

// some is a random right spec.
func some(r *rand.Rand) api.Spec {
	s := api.Spec{Ranked: r.Intn(2) == 0}
	text := func(least int) string {
		b := make([]byte, least+r.Intn(4))
		r.Read(b)
		return string(b)
	}
	for range r.Intn(4) {
		if s.Ranked {
			s.Tokens = append(s.Tokens, text(2))
		} else {
			s.Merges = append(s.Merges, api.Merge{A: r.Intn(1000), B: r.Intn(1000)})
		}
	}
	for range r.Intn(3) {
		s.Specials = append(s.Specials, api.Special{Id: r.Intn(1<<30 + 1), Text: text(1)})
	}
	for range r.Intn(3) {
		hi := r.Intn(256)
		s.Classes = append(s.Classes, api.Class{Lo: r.Intn(hi + 1), Hi: hi, N: r.Intn(16)})
	}
	for range r.Intn(3) {
		s.Joins = append(s.Joins, api.Join{A: r.Intn(16), B: r.Intn(16)})
	}
	return s
}

// spoilt is a text that is changed at one place.
func spoilt(r *rand.Rand, text string) string {
	const bytes = "0123456789abcdef -\nxmergtoknspcilaj"
	if text == "" {
		return string(bytes[r.Intn(len(bytes))])
	}
	at := r.Intn(len(text))
	lines := strings.SplitAfter(text, "\n")
	i, k := r.Intn(len(lines)), r.Intn(len(lines))
	switch r.Intn(6) {
	case 0:
		return text[:at] + text[at+1:]
	case 1:
		return text[:at] + string(bytes[r.Intn(len(bytes))]) + text[at+1:]
	case 2:
		return text[:at] + string(bytes[r.Intn(len(bytes))]) + text[at:]
	case 3:
		lines[i], lines[k] = lines[k], lines[i]
	case 4:
		lines = slices.Delete(lines, i, i+1)
	case 5:
		lines = slices.Insert(lines, i, lines[k])
	}
	return strings.Join(lines, "")
}

// P6.2, P6.3: random texts, right and spoilt, held against the document's words.
func TestRandomTexts(t *testing.T) {
	r := rand.New(rand.NewSource(6))
	right := 0
	for range 4000 {
		s := some(r)
		text := mustPrint(t, s)
		if firstWrong(text) != 0 {
			t.Fatalf("Print of %v: %q", s, text)
		}
		mustBe(t, s, text)
		for range 1 + r.Intn(3) {
			text = spoilt(r, text)
		}
		want := firstWrong(text)
		if want > 0 {
			mustFail(t, text, want, api.ErrForm)
			continue
		}
		right++
		got, line, e := spec.Parse(text)
		if line != 0 || e != api.OK {
			t.Fatalf("Parse of %q: %d, %d", text, line, e)
		}
		mustBe(t, got, text)
	}
	if right < 100 || right > 3900 {
		t.Errorf("%d of 4000 were right", right)
	}
}

// Rule 4: what is handed in stays as it was, its spare room too; what is answered is new.
func TestMemory(t *testing.T) {
	s := full(false)
	s.Tokens = []string{"spare"}[:0]
	s.Merges, s.Specials, s.Classes, s.Joins = s.Merges[:3], s.Specials[:3], s.Classes[:3], s.Joins[:3]
	text := mustPrint(t, s)
	spec.Same(s, full(true))
	want := full(false)
	if !slices.Equal(s.Merges[:744], want.Merges) || !slices.Equal(s.Specials[:32], want.Specials) || !slices.Equal(s.Classes[:64], want.Classes) || !slices.Equal(s.Joins[:64], want.Joins) || s.Tokens[:1][0] != "spare" {
		t.Error("what was handed in is changed")
	}
	a, _, _ := spec.Parse(text)
	a.Merges[0], a.Specials[0], a.Classes[0], a.Joins[0] = api.Merge{A: 7}, api.Special{Id: 7}, api.Class{N: 7}, api.Join{A: 7}
	mustBe(t, s, text)
}
