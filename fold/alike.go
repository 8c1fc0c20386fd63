package fold

import (
	"ligature/grid"
)

// column is what tokens of one class of columns have in common.
type column struct {
	bits  string
	alone bool
}

// alike puts together what has the same key: the class of each token, numbered as their first ones come, and these first ones.
func alike[K comparable](ids []int, key func(id int) K) (map[int]int, []int) {
	classes := make(map[int]int, len(ids))
	numbers := map[K]int{}
	var firsts []int
	for _, id := range ids {
		k := key(id)
		n, seen := numbers[k]
		if !seen {
			n = len(firsts)
			numbers[k] = n
			firsts = append(firsts, id)
		}
		classes[id] = n
	}
	return classes, firsts
}

// fill works the classes out, and their bits. A column is told by one row of each class: the other ones have the same bits.
func (f *Fold) fill(g *grid.Grid) {
	var firsts, seconds []int
	ids := idsOf(g)
	f.rows, firsts = alike(ids, func(id int) string { return textOf(g.Row(id)) })
	f.columns, seconds = alike(ids, func(id int) column { return columnOf(g, firsts, id) })
	for _, first := range firsts {
		f.bits = append(f.bits, bitsOf(seconds, func(id int) bool { return g.Has(first, id) }))
	}
	f.alone = bitsOf(seconds, g.Alone)
}

// columnOf is a token's column, a byte for the bit of each of some rows.
func columnOf(g *grid.Grid, firsts []int, id int) column {
	bits := make([]byte, len(firsts))
	for n, first := range firsts {
		if g.Has(first, id) {
			bits[n] = 1
		}
	}
	return column{bits: string(bits), alone: g.Alone(id)}
}

func idsOf(g *grid.Grid) []int {
	ids := make([]int, g.Size())
	for place := range ids {
		ids[place], _ = g.Id(place)
	}
	return ids
}

// textOf is a row as a text: unlike a slice it can be a key.
func textOf(words []uint64) string {
	text := make([]byte, 0, 8*len(words))
	for _, word := range words {
		for shift := 0; shift < 64; shift += 8 {
			text = append(text, byte(word>>shift))
		}
	}
	return string(text)
}

// bitsOf is what a function tells of each token.
func bitsOf(ids []int, bit func(id int) bool) []bool {
	all := make([]bool, len(ids))
	for i, id := range ids {
		all[i] = bit(id)
	}
	return all
}
