package vocab_test

import (
	"math/rand"
	"slices"
	"strings"

	"ligature/api"
)

// model is a vocabulary by the words of the document alone, without the layers below.
type model struct {
	api.Spec
	texts  []string    // of all ordinary tokens
	merges []api.Merge // the parents of those above 255
}

// modelOf is the vocabulary of a right spec; or the part that can't be (0: the table, 1: what is special), its place there, and why.
func modelOf(s api.Spec) (*model, int, int, api.Errno) {
	m := &model{Spec: s}
	for b := range 256 {
		m.texts = append(m.texts, string([]byte{byte(b)}))
	}
	for i, x := range s.Merges {
		if e := m.merge(x); e != api.OK {
			return nil, 0, i, e
		}
	}
	for i, text := range s.Tokens {
		made := m.made(text)
		if len(made) != 2 {
			return nil, 0, i, api.ErrForm
		}
		if e := m.merge(api.Merge{A: made[0], B: made[1]}); e != api.OK {
			return nil, 0, i, e
		}
	}
	for i, x := range s.Specials {
		for _, y := range s.Specials[:i] {
			if x.Id == y.Id || x.Text == y.Text {
				return nil, 1, i, api.ErrTwice
			}
		}
	}
	for i, x := range s.Specials {
		if x.Id < len(m.texts) {
			return nil, 1, i, api.ErrId
		}
	}
	return m, 0, 0, api.OK
}

func (m *model) merge(x api.Merge) api.Errno {
	if x.A >= len(m.texts) || x.B >= len(m.texts) {
		return api.ErrId
	}
	text := m.texts[x.A] + m.texts[x.B]
	if len(text) > 64 {
		return api.ErrLong
	}
	if slices.Contains(m.texts, text) {
		return api.ErrTwice
	}
	m.texts, m.merges = append(m.texts, text), append(m.merges, x)
	return api.OK
}

// made is what is made of bytes: token by token, each from the beginning on.
func (m *model) made(text string) []int {
	row := bytesOf(text)
	for n, x := range m.merges {
		var next []int
		for i := 0; i < len(row); i++ {
			if i+1 < len(row) && row[i] == x.A && row[i+1] == x.B {
				next = append(next, 256+n)
				i++
			} else {
				next = append(next, row[i])
			}
		}
		row = next
	}
	return row
}

func bytesOf(text string) []int {
	var l []int
	for i := range len(text) {
		l = append(l, int(text[i]))
	}
	return l
}

func (m *model) class(b byte) int {
	n := 0
	for _, c := range m.Classes {
		if c.Lo <= int(b) && int(b) <= c.Hi {
			n = c.N
		}
	}
	return n
}

// whole tells whether bytes are of one piece.
func (m *model) whole(text string) bool {
	for i := 1; i < len(text); i++ {
		a, b := m.class(text[i-1]), m.class(text[i])
		if a != b && !slices.Contains(m.Joins, api.Join{A: a, B: b}) {
			return false
		}
	}
	return true
}

func (m *model) alone(id int) bool {
	if m.place(id) >= 0 {
		return true
	}
	if id < 0 || id >= len(m.texts) {
		return false
	}
	return len(m.made(m.texts[id])) == 1 && m.whole(m.texts[id])
}

// place is that of a special token of some Id, or -1.
func (m *model) place(id int) int {
	return slices.IndexFunc(m.Specials, func(x api.Special) bool { return x.Id == id })
}

func (m *model) has(id int) bool {
	return id >= 0 && id < len(m.texts) || m.place(id) >= 0
}

func (m *model) ids() []int {
	var l []int
	for id := range m.texts {
		l = append(l, id)
	}
	for _, x := range m.Specials {
		l = append(l, x.Id)
	}
	slices.Sort(l)
	return l
}

func (m *model) items(ids ...int) ([]int, int, api.Errno) {
	var l []int
	for i, id := range ids {
		switch place := m.place(id); {
		case place >= 0:
			l = append(l, -1-place)
		case m.has(id):
			l = append(l, bytesOf(m.texts[id])...)
		default:
			return nil, i, api.ErrId
		}
	}
	return l, len(ids), api.OK
}

// randomSpec is a right spec of few letters; faults is how many times in a hundred one of its things is any that is right.
func randomSpec(r *rand.Rand, faults int) api.Spec {
	s := api.Spec{Ranked: r.Intn(2) == 0}
	m, _, _, _ := modelOf(api.Spec{})
	there := []int{'a', 'b', 'c', '1'}
	for range r.Intn(14) {
		x := api.Merge{A: there[r.Intn(len(there))], B: there[r.Intn(len(there))]}
		if r.Intn(100) < faults {
			x.B = 250 + r.Intn(20)
		}
		text, e := randomText(r), api.OK
		if x.A < len(m.texts) && x.B < len(m.texts) {
			text = m.texts[x.A] + m.texts[x.B]
		}
		if s.Ranked {
			if made := m.made(text); len(made) == 2 {
				x = api.Merge{A: made[0], B: made[1]}
			} else {
				e = api.ErrForm
			}
		}
		if e == api.OK {
			e = m.merge(x)
		}
		if e != api.OK && (len(text) > 64 || r.Intn(100) >= faults) {
			continue
		}
		if e == api.OK {
			there = append(there, len(m.texts)-1)
		}
		if s.Ranked {
			s.Tokens = append(s.Tokens, text)
		} else {
			s.Merges = append(s.Merges, x)
		}
	}
	for i := range r.Intn(5) {
		x := api.Special{Id: 1000 - i*r.Intn(9) - i, Text: strings.Repeat("<", i+1)}
		if r.Intn(100) < faults {
			x.Id = len(m.texts) + r.Intn(3) - 1
		}
		if r.Intn(100) < faults {
			x.Text = "<"
		}
		s.Specials = append(s.Specials, x)
	}
	return withBounds(r, s)
}

// withBounds gives a spec a few classes and joins.
func withBounds(r *rand.Rand, s api.Spec) api.Spec {
	for range r.Intn(4) {
		lo := '0' + r.Intn(60)
		s.Classes = append(s.Classes, api.Class{Lo: lo, Hi: lo + r.Intn(60), N: r.Intn(4)})
	}
	for range r.Intn(4) {
		s.Joins = append(s.Joins, api.Join{A: r.Intn(4), B: r.Intn(4)})
	}
	return s
}

// randomText is 2 to 5 letters.
func randomText(r *rand.Rand) string {
	var b strings.Builder
	for range 2 + r.Intn(4) {
		b.WriteByte("abc1"[r.Intn(4)])
	}
	return b.String()
}
