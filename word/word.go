// Package word is layer 2: words of texts.
package word

import (
	"strconv"
	"strings"
)

const (
	blank     = " "
	newline   = "\n"
	none      = "-" // a word must stand even where there is nothing to tell
	hexDigits = "0123456789abcdef"
)

// Number is a number's digits.
func Number(n int) string {
	return strconv.Itoa(n)
}

// Parse is the number that is told so.
func Parse(s string, most int) (int, bool) {
	n, err := strconv.Atoi(s)
	if err != nil || n < 0 || n > most || Number(n) != s { // Atoi takes signs and noughts ahead: telling it again finds them
		return 0, false
	}
	return n, true
}

// Hex is bytes, told.
func Hex(s string) string {
	if s == "" {
		return none
	}
	var told strings.Builder
	for i := range len(s) {
		told.WriteByte(hexDigits[s[i]>>4])
		told.WriteByte(hexDigits[s[i]&15])
	}
	return told.String()
}

// Unhex is the bytes that are told so.
func Unhex(s string) (string, bool) {
	if s == none {
		return "", true
	}
	if s == "" || len(s)%2 != 0 {
		return "", false
	}
	var read strings.Builder
	for i := range len(s) / 2 {
		high := strings.IndexByte(hexDigits, s[2*i])
		low := strings.IndexByte(hexDigits, s[2*i+1])
		if high < 0 || low < 0 {
			return "", false
		}
		read.WriteByte(byte(high<<4 | low))
	}
	return read.String(), true
}

// Line is words with blanks between.
func Line(first string, more ...string) string {
	var line strings.Builder
	line.WriteString(first)
	for _, word := range more {
		line.WriteString(blank)
		line.WriteString(word)
	}
	return line.String()
}

// Cut is a line's words.
func Cut(line string) []string {
	return strings.Split(line, blank)
}

// Lines is a text's lines, and whether the last one is ended.
func Lines(text string) ([]string, bool) {
	parts := strings.Split(text, newline)
	last := len(parts) - 1
	return parts[:last:last], parts[last] == ""
}

// Numbers is numbers, told.
func Numbers(l ...int) string {
	if len(l) == 0 {
		return none
	}
	words := make([]string, len(l))
	for i, n := range l {
		words[i] = Number(n)
	}
	return Line(words[0], words[1:]...)
}
