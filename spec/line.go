package spec

import (
	"ligature/api"
)

// The kinds of lines, in the order in which they stand in a text.
const (
	vocabLine = iota
	mergeLine
	tokenLine
	specialLine
	classLine
	joinLine
	noLine // what is none of these
)

const (
	asMerges = "merges"
	asRanks  = "ranks"
)

// names is the first word of each kind's lines.
var names = [noLine]string{"vocab", "merge", "token", "special", "class", "join"}

// kindOf is the kind of the lines whose first word it is.
func kindOf(first string) int {
	for kind, name := range names {
		if name == first {
			return kind
		}
	}
	return noLine
}

const (
	maxParent = api.MaxVocab - 1
	maxMade   = api.MaxVocab - api.Bytes // tokens beside those that are always there
	maxRows   = 64                       // classes, and joins
)

// room is how many lines of a kind there may be.
func room(kind int, ranked bool) int {
	switch kind {
	case mergeLine:
		if ranked {
			return 0
		}
		return maxMade
	case tokenLine:
		if !ranked {
			return 0
		}
		return maxMade
	case specialLine:
		return api.MaxSpecials
	}
	return maxRows
}

// all tells whether there is room for all things, and each is right.
func all[T any](l []T, room int, right func(T) bool) bool {
	if len(l) > room {
		return false
	}
	for _, thing := range l {
		if !right(thing) {
			return false
		}
	}
	return true
}

// within tells whether all numbers are from 0 to most.
func within(most int, l ...int) bool {
	return all(l, len(l), func(n int) bool { return 0 <= n && n <= most })
}

// sized tells whether a text has at least so many bytes, and no more than a token may have.
func sized(s string, least int) bool {
	return least <= len(s) && len(s) <= api.MaxToken
}

func rightMerge(m api.Merge) bool {
	return within(maxParent, m.A, m.B)
}

func rightToken(s string) bool {
	return sized(s, 2) // those of one byte are there already
}

func rightSpecial(s api.Special) bool {
	return within(api.MaxId, s.Id) && sized(s.Text, 1)
}

func rightClass(c api.Class) bool {
	return within(c.Hi, c.Lo) && within(api.Bytes-1, c.Hi) && within(api.MaxClass, c.N)
}

func rightJoin(j api.Join) bool {
	return within(api.MaxClass, j.A, j.B)
}
