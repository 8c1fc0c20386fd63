package spec

import (
	"ligature/api"
	"ligature/word"
)

// reader is the spec of the lines that were read.
type reader struct {
	api.Spec
	lines int
	kind  int // that of the last line: none ahead of it in their order may come any more
}

// read takes the next line; it tells whether a right spec's text goes on with it.
func (r *reader) read(line string) bool {
	words := word.Cut(line)
	kind := kindOf(words[0])
	if !r.follows(kind) || !r.take(kind, words[1:]) {
		return false
	}
	r.kind = kind
	r.lines++
	return true
}

// follows tells whether a line of a kind may come next.
func (r *reader) follows(kind int) bool {
	if r.lines == 0 {
		return kind == vocabLine
	}
	return kind != vocabLine && kind >= r.kind
}

// take gathers what a line tells behind its first word.
func (r *reader) take(kind int, words []string) bool {
	switch kind {
	case vocabLine:
		return r.head(words)
	case mergeLine:
		n, ok := numbers(words, 2)
		return ok && add(&r.Merges, r.room(kind), api.Merge{A: n[0], B: n[1]}, rightMerge)
	case tokenLine:
		text, ok := token(words)
		return ok && add(&r.Tokens, r.room(kind), text, rightToken)
	case specialLine:
		s, ok := special(words)
		return ok && add(&r.Specials, r.room(kind), s, rightSpecial)
	case classLine:
		n, ok := numbers(words, 3)
		return ok && add(&r.Classes, r.room(kind), api.Class{Lo: n[0], Hi: n[1], N: n[2]}, rightClass)
	case joinLine:
		n, ok := numbers(words, 2)
		return ok && add(&r.Joins, r.room(kind), api.Join{A: n[0], B: n[1]}, rightJoin)
	}
	return false
}

func (r *reader) room(kind int) int {
	return room(kind, r.Ranked)
}

// head takes the first line, that tells how tokens are told.
func (r *reader) head(words []string) bool {
	if len(words) != 1 {
		return false
	}
	r.Ranked = words[0] == asRanks
	return r.Ranked || words[0] == asMerges
}

// add puts a thing behind a list, if there is room for it, and it is right.
func add[T any](l *[]T, room int, thing T, right func(T) bool) bool {
	if len(*l) >= room || !right(thing) {
		return false
	}
	*l = append(*l, thing)
	return true
}

// numbers is just so many numbers, each of which no number of a spec is above.
func numbers(words []string, count int) ([]int, bool) {
	if len(words) != count {
		return nil, false
	}
	l := make([]int, count)
	for i, told := range words {
		n, ok := word.Parse(told, api.MaxId)
		if !ok {
			return nil, false
		}
		l[i] = n
	}
	return l, true
}

// token is the bytes that are told by one word.
func token(words []string) (string, bool) {
	if len(words) != 1 {
		return "", false
	}
	return word.Unhex(words[0])
}

// special is the special token that is told by two words.
func special(words []string) (api.Special, bool) {
	if len(words) != 2 {
		return api.Special{}, false
	}
	id, ok := word.Parse(words[0], api.MaxId)
	text, too := word.Unhex(words[1])
	return api.Special{Id: id, Text: text}, ok && too
}
