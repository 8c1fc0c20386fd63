package decode

import "strings"

// mostHeld is as many bytes as a rune can have without being whole.
const mostHeld = 3

// Held is how many bytes are held back: the last ones, if they begin a rune and don't end it.
func Held(s string) int {
	for n := 1; n <= min(mostHeld, len(s)); n++ {
		b := s[len(s)-n]
		if runeSize(b) > n {
			return n
		}
		if !goesOn(b) {
			return 0
		}
	}
	return 0
}

// runeSize is how many bytes the rune has that a byte begins, by its highest bits; 0 without one, and of a rune that is one byte.
func runeSize(b byte) int {
	switch {
	case b>>5 == 0b110:
		return 2
	case b>>4 == 0b1110:
		return 3
	case b>>3 == 0b11110:
		return 4
	}
	return 0
}

// goesOn tells whether a byte goes on with a rune that another one began.
func goesOn(b byte) bool {
	return b>>6 == 0b10
}

// tail is bytes that are held back till their rune is whole.
type tail struct {
	back string
}

// join puts a text behind what is held back, and tells what isn't any more.
func (t *tail) join(text string) string {
	all := t.back + text
	end := len(all) - Held(all)
	t.back = strings.Clone(all[end:]) // a piece of the text would keep all of it
	return all[:end]
}

// release tells what is held back; nothing is then.
func (t *tail) release() string {
	rest := t.back
	t.back = ""
	return rest
}
