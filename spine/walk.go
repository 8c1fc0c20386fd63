package spine

import (
	"ligature/api"
	"ligature/token"
)

// pair is two tokens' numbers, one behind the other.
type pair struct{ first, second int }

// areBytes tells whether neither can be taken apart.
func (p pair) areBytes() bool {
	return max(p.first, p.second) < api.Bytes
}

// takesFirst tells whether the first one is taken apart next. A byte is below all that can be taken apart, so the greater one is never a byte, unless both are.
func (p pair) takesFirst() bool {
	return p.first > p.second
}

// sides is the two tokens of a table that a walk has come to.
type sides struct {
	pair
	table *token.Table
}

// there tells whether the table has both.
func (s *sides) there() bool {
	_, ok := s.table.Bytes(s.first)
	_, too := s.table.Bytes(s.second)
	return ok && too
}

// becomeOne tells whether the two are the parents of a token below a limit.
func (s *sides) becomeOne(limit int) bool {
	id, ok := s.table.Pair(s.first, s.second)
	return ok && id < limit
}

// walk is how far two spines are walked: a token from the limit on would be made too late to part them, and some were taken apart.
type walk struct {
	sides
	limit int
	steps int
}

func walkOf(t *token.Table, a, b, limit int) *walk {
	return &walk{sides: sides{pair: pair{a, b}, table: t}, limit: limit}
}

// toEnd walks two that are there to the end, and tells whether they may stand side by side.
func (w *walk) toEnd() bool {
	for !w.becomeOne(w.limit) {
		if w.areBytes() {
			return true
		}
		w.step()
	}
	return false
}

// step takes one apart: that of its parents which the other one meets stands in its place. A token of the second one's own number could still have been made where the two meet, as that begins ahead of it: so the limit is one more then.
func (w *walk) step() {
	w.steps++
	if w.takesFirst() {
		m, _ := w.table.Parents(w.first)
		w.limit, w.first = w.first, m.B
		return
	}
	m, _ := w.table.Parents(w.second)
	w.limit, w.second = w.second+1, m.A
}
