package vocab

import (
	"slices"

	"ligature/api"
	"ligature/bound"
	"ligature/grow"
	"ligature/mark"
	"ligature/token"
)

// The parts of a vocabulary, in the order in which they are made, as the first one that can't be is told.
const (
	tablePart = iota
	marksPart
	idsPart
	boundsPart
	allParts
)

// parts is what a vocabulary is made of.
type parts struct {
	spec   api.Spec
	table  *token.Table
	size   int // how many tokens the table had when it was made: who has it may add some
	marks  *mark.Set
	bounds *bound.Table
}

// flaw is which part of a vocabulary can't be, where in its list, and why.
type flaw struct {
	part, place int
	why         api.Errno
}

// line is where a spec's text tells the thing that can't be: behind the first line stand its merges or tokens, then its special tokens.
func (f flaw) line(s api.Spec) int {
	line := 2 + f.place
	if f.part != tablePart {
		line += len(s.Merges) + len(s.Tokens)
	}
	return line
}

// build is the vocabulary of a right spec, or its first flaw.
func build(s api.Spec) (*Vocab, flaw) {
	v := &Vocab{parts: parts{spec: copied(s)}}
	for part := range allParts {
		if place, e := v.add(part); e != api.OK {
			return nil, flaw{part, place, e}
		}
	}
	return v, flaw{}
}

// copied is a spec with lists of its own.
func copied(s api.Spec) api.Spec {
	s.Merges = slices.Clone(s.Merges)
	s.Tokens = slices.Clone(s.Tokens)
	s.Specials = slices.Clone(s.Specials)
	s.Classes = slices.Clone(s.Classes)
	s.Joins = slices.Clone(s.Joins)
	return s
}

// add makes a part, when those ahead of it are there; or tells where it can't be made, and why.
func (p *parts) add(part int) (int, api.Errno) {
	var n int
	var e api.Errno
	switch part {
	case tablePart:
		p.table, n, e = grow.Load(p.spec)
		p.size = p.table.Len()
	case marksPart:
		p.marks, n, e = mark.New(p.spec.Specials...)
	case idsPart:
		n, e = p.ownIds()
	case boundsPart:
		p.bounds, e = bound.New(p.spec.Classes, p.spec.Joins)
	}
	return n, e
}

// ownIds tells of the first special token whose Id is that of an ordinary one.
func (p *parts) ownIds() (int, api.Errno) {
	for place, x := range p.spec.Specials {
		if p.ordinary(x.Id) {
			return place, api.ErrId
		}
	}
	return 0, api.OK
}

func (p *parts) ordinary(id int) bool {
	return id >= 0 && id < p.size
}

// items is the items of one token.
func (p *parts) items(id int) ([]int, bool) {
	if m, ok := p.marks.Mark(id); ok {
		return []int{m}, true
	}
	if !p.ordinary(id) {
		return nil, false
	}
	text, _ := p.table.Bytes(id)
	return mark.Bytes(text), true
}
