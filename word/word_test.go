package word_test

import (
	"fmt"
	"math"
	"slices"
	"strings"
	"testing"

	"ligature/word"
)

// P2.1
func TestNumber(t *testing.T) {
	for n, want := range map[int]string{
		0: "0", 1: "1", 9: "9", 10: "10", 100: "100", 1 << 30: "1073741824", -1: "-1", -10: "-10",
		math.MaxInt: fmt.Sprint(math.MaxInt), math.MinInt: fmt.Sprint(math.MinInt),
	} {
		if got := word.Number(n); got != want {
			t.Errorf("%d: %q", n, got)
		}
	}
	for n := range 2000 {
		if got, want := word.Number(n-1000), fmt.Sprint(n-1000); got != want {
			t.Errorf("%d: %q", n-1000, got)
		}
	}
}

// P2.1
func TestParse(t *testing.T) {
	for _, most := range []int{0, 1, 9, 10, 15, 99, 100, 255, 999, 1 << 30, math.MaxInt - 1, math.MaxInt} {
		for _, n := range []int{0, 1, 5, 9, 10, 11, 15, 16, 99, 100, 101, 999, 1000, 1 << 30, 1<<30 + 1, math.MaxInt - 1, math.MaxInt} {
			got, ok := word.Parse(fmt.Sprint(n), most)
			if ok != (n <= most) || ok && got != n || !ok && got != 0 {
				t.Errorf("%d of at most %d: %d, %v", n, most, got, ok)
			}
		}
	}
}

// P2.1
func TestParseBelowNought(t *testing.T) {
	for _, most := range []int{-1, -7, math.MinInt} {
		for _, s := range []string{"0", "1", "-1", "-7", "-8", "", "-"} {
			if n, ok := word.Parse(s, most); n != 0 || ok {
				t.Errorf("%q of at most %d: %d, %v", s, most, n, ok)
			}
		}
	}
}

// P2.1
func TestParseOfWhatIsNoNumber(t *testing.T) {
	for _, s := range []string{
		"", "-", "+", "00", "07", "01", "000", "-0", "-1", "+0", "+1", "+7", " 1", "1 ", "1\n", "\n", "1.", "1.0", "1e1", "1_0", "1,0",
		"0x1", "0b1", "0o1", "a", "f", "1a", "a1", "/", ":", "1/", "1:", "\x00", "\xff", "\u0661",
		"9223372036854775808", "18446744073709551616", "18446744073709551617", "99999999999999999999999999", strings.Repeat("9", 5000), strings.Repeat("0", 5000) + "1",
	} {
		if n, ok := word.Parse(s, math.MaxInt); n != 0 || ok {
			t.Errorf("%q: %d, %v", s, n, ok)
		}
	}
}

// P2.1
func TestHex(t *testing.T) {
	for s, want := range map[string]string{"": "-", "az": "617a", "-": "2d", "\x00": "00", "\x00\x00": "0000", "\x0f": "0f", "\xf0": "f0", "\xff\xfe": "fffe", "<|>": "3c7c3e", "\u00e9": "c3a9", "a\n b": "610a2062"} {
		if got := word.Hex(s); got != want {
			t.Errorf("Hex(%q): %q, want %q", s, got, want)
		}
		if back, ok := word.Unhex(want); back != s || !ok {
			t.Errorf("Unhex(%q): %q, %v", want, back, ok)
		}
	}
	for b := range 256 {
		if got, want := word.Hex(string([]byte{byte(b)})), fmt.Sprintf("%02x", b); got != want {
			t.Errorf("byte %d: %q", b, got)
		}
	}
}

// P2.1
func TestUnhexOfWhatIsNoBytes(t *testing.T) {
	for _, s := range []string{
		"", " ", "a", "0", "617", "61 ", " 61", "6 1", "61 7a", "--", "-61", "61-", "- ", "-\n", "0x61", "AF", "aF", "Fa", "6A", "A6", "617A", "7A61", "g0", "0g", "/0", ":0", "0/", "0:", "`0", "0`",
		"61\n", "6\x00", "\x00\x00", "\xff\xff", "\u00e9", strings.Repeat("0", 1001),
	} {
		if got, ok := word.Unhex(s); got != "" || ok {
			t.Errorf("%q: %q, %v", s, got, ok)
		}
	}
}

// P2.1
func TestUnhexOfAllTwoBytes(t *testing.T) {
	for high := range 256 {
		for low := range 256 {
			s := string([]byte{byte(high), byte(low)})
			right := strings.Contains("0123456789abcdef", s[:1]) && strings.Contains("0123456789abcdef", s[1:])
			got, ok := word.Unhex(s)
			if ok != right || !ok && got != "" || ok && (len(got) != 1 || fmt.Sprintf("%02x", got[0]) != s) {
				t.Fatalf("%q: %q, %v", s, got, ok)
			}
		}
	}
}

// P2.2
func TestLine(t *testing.T) {
	for _, c := range []struct {
		words []string
		want  string
	}{
		{[]string{""}, ""},
		{[]string{"merge"}, "merge"},
		{[]string{"merge", "97", "98"}, "merge 97 98"},
		{[]string{"", ""}, " "},
		{[]string{"", "a", ""}, " a "},
		{[]string{"\n", "\xff"}, "\n \xff"},
	} {
		if got := word.Line(c.words[0], c.words[1:]...); got != c.want {
			t.Errorf("%q: %q", c.words, got)
		}
	}
}

// P2.2
func TestCut(t *testing.T) {
	for line, want := range map[string][]string{
		"": {""}, " ": {"", ""}, "a": {"a"}, "x  y": {"x", "", "y"}, " a": {"", "a"}, "a ": {"a", ""},
		"merge 97 98": {"merge", "97", "98"}, "a\nb\tc\u00a0d": {"a\nb\tc\u00a0d"}, "   ": {"", "", "", ""}, "\xff \x00": {"\xff", "\x00"},
	} {
		if got := word.Cut(line); !slices.Equal(got, want) {
			t.Errorf("%q: %q", line, got)
		}
	}
}

// P2.2
func TestLines(t *testing.T) {
	for _, c := range []struct {
		text  string
		want  []string
		ended bool
	}{
		{"", nil, true},
		{"\n", []string{""}, true},
		{"\n\n", []string{"", ""}, true},
		{"a", nil, false},
		{" ", nil, false},
		{"a\n", []string{"a"}, true},
		{"a\nb", []string{"a"}, false},
		{"a\nb\n", []string{"a", "b"}, true},
		{"\na", []string{""}, false},
		{"a\n\nb c\n", []string{"a", "", "b c"}, true},
		{"a\r\nb\r", []string{"a\r"}, false},
		{"\xff\n\x00\n", []string{"\xff", "\x00"}, true},
	} {
		if got, ended := word.Lines(c.text); !slices.Equal(got, c.want) || ended != c.ended {
			t.Errorf("%q: %q, %v", c.text, got, ended)
		}
	}
}

// P2.2
func TestNumbers(t *testing.T) {
	for want, l := range map[string][]int{"-": nil, "0": {0}, "-1": {-1}, "3 -1": {3, -1}, "1 2 3": {1, 2, 3}, "0 0": {0, 0}, "256 97 1073741824": {256, 97, 1 << 30}} {
		if got := word.Numbers(l...); got != want {
			t.Errorf("%v: %q", l, got)
		}
	}
	if got := word.Numbers([]int{}...); got != "-" {
		t.Errorf("no numbers: %q", got)
	}
	if got, want := word.Numbers(math.MinInt, math.MaxInt), fmt.Sprint(math.MinInt, " ", math.MaxInt); got != want {
		t.Errorf("the least and the greatest: %q", got)
	}
}

// P2.1, P2.2: what is handed in isn't changed, its spare room neither.
func TestArgumentsStay(t *testing.T) {
	words := []string{"a", "b", "c", "d"}
	word.Line("first", words[:2]...)
	if !slices.Equal(words, []string{"a", "b", "c", "d"}) {
		t.Errorf("Line wrote to its words: %q", words)
	}
	numbers := []int{1, 2, 3, 4}
	word.Numbers(numbers[:2]...)
	if !slices.Equal(numbers, []int{1, 2, 3, 4}) {
		t.Errorf("Numbers wrote to its numbers: %v", numbers)
	}
}

// P2.1, P2.2: what is answered is new memory.
func TestAnswersAreNew(t *testing.T) {
	first, _ := word.Lines("a\nb\n")
	second, _ := word.Lines("a\nb\n")
	cut, again := word.Cut("a b"), word.Cut("a b")
	first[0], cut[0] = "x", "x"
	_, _ = append(first, "y"), append(cut, "y")
	if !slices.Equal(second, []string{"a", "b"}) || !slices.Equal(again, []string{"a", "b"}) {
		t.Errorf("%q, %q", second, again)
	}
}

// P2.3
func TestToldIsReadAsItWas(t *testing.T) {
	for _, n := range []int{0, 1, 7, 10, 97, 255, 1000, 1 << 30, math.MaxInt} {
		if back, ok := word.Parse(word.Number(n), n); back != n || !ok {
			t.Errorf("%d: %d, %v", n, back, ok)
		}
	}
	all := make([]byte, 256)
	for b := range all {
		all[b] = byte(b)
		for _, s := range []string{string(all[:b]), string(all[b]), string(all[b:])} {
			if back, ok := word.Unhex(word.Hex(s)); back != s || !ok {
				t.Errorf("%q: %q, %v", s, back, ok)
			}
		}
	}
	for _, words := range [][]string{{""}, {"a"}, {"a", "b"}, {"", "", "a", ""}, {"merge", "97", "98"}} {
		if back := word.Cut(word.Line(words[0], words[1:]...)); !slices.Equal(back, words) {
			t.Errorf("%q: %q", words, back)
		}
		text := strings.Join(words, "\n") + "\n"
		if back, ended := word.Lines(text); !slices.Equal(back, words) || !ended {
			t.Errorf("%q: %q, %v", text, back, ended)
		}
	}
}

// P2.3: all texts of up to three of these bytes.
func TestReadIsToldAsItWas(t *testing.T) {
	const some = "019afAFg-+ \n\x00\xff"
	texts := []string{""}
	for from, size := 0, 0; size < 3; size++ {
		to := len(texts)
		for _, s := range texts[from:to] {
			for i := range len(some) {
				texts = append(texts, s+some[i:i+1])
			}
		}
		from = to
	}
	for _, s := range texts {
		if n, ok := word.Parse(s, 1000); ok && word.Number(n) != s {
			t.Errorf("%q is read as %d", s, n)
		}
		if bytes, ok := word.Unhex(s); ok && word.Hex(bytes) != s {
			t.Errorf("%q is read as %q", s, bytes)
		}
		if words := word.Cut(s); word.Line(words[0], words[1:]...) != s || len(words) != strings.Count(s, " ")+1 {
			t.Errorf("%q is cut as %q", s, words)
		}
		lines, ended := word.Lines(s)
		if len(lines) != strings.Count(s, "\n") || ended != (s == "" || strings.HasSuffix(s, "\n")) {
			t.Errorf("%q has lines %q, %v", s, lines, ended)
		}
	}
}
