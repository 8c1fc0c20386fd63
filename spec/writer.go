package spec

import (
	"strings"

	"ligature/api"
	"ligature/word"
)

// writer is the text of what was told.
type writer struct {
	strings.Builder
}

// line tells a line of a kind, with these words behind its name.
func (w *writer) line(kind int, words ...string) {
	w.WriteString(word.Line(names[kind], words...))
	w.WriteByte('\n')
}

// spec tells all lines of a spec.
func (w *writer) spec(s api.Spec) {
	w.head(s.Ranked)
	for _, m := range s.Merges {
		w.line(mergeLine, word.Numbers(m.A, m.B))
	}
	for _, text := range s.Tokens {
		w.line(tokenLine, word.Hex(text))
	}
	for _, x := range s.Specials {
		w.line(specialLine, word.Number(x.Id), word.Hex(x.Text))
	}
	for _, c := range s.Classes {
		w.line(classLine, word.Numbers(c.Lo, c.Hi, c.N))
	}
	for _, j := range s.Joins {
		w.line(joinLine, word.Numbers(j.A, j.B))
	}
}

// head tells the first line.
func (w *writer) head(ranked bool) {
	if ranked {
		w.line(vocabLine, asRanks)
	} else {
		w.line(vocabLine, asMerges)
	}
}
