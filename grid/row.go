package grid

import (
	"ligature/spine"
	"ligature/vocab"
)

// wordBits is how many bits a word of a row has.
const wordBits = 64

// row is a bit for each place, the lowest first.
type row []uint64

// rowOf is a row of so many bits, each told by a function.
func rowOf(size int, bit func(place int) bool) row {
	r := make(row, (size+wordBits-1)/wordBits)
	for place := range size {
		if bit(place) {
			r[place/wordBits] |= 1 << (place % wordBits)
		}
	}
	return r
}

// has tells a place's bit.
func (r row) has(place int) bool {
	return r[place/wordBits]>>(place%wordBits)&1 == 1
}

func placesOf(ids []int) map[int]int {
	places := make(map[int]int, len(ids))
	for place, id := range ids {
		places[id] = place
	}
	return places
}

// fill works all bits out. They are asked of a vocabulary made anew: if the table of the one that is given was handed out and has grown, each question would make it anew.
func (g *Grid) fill(given *vocab.Vocab) {
	v, _, _ := vocab.New(given.Spec()) // it could be made before
	g.alone = rowOf(len(g.ids), func(place int) bool { return v.Alone(g.ids[place]) })
	for first, a := range g.ids {
		g.rows = append(g.rows, rowOf(len(g.ids), func(second int) bool {
			return g.alone.has(first) && g.alone.has(second) && spine.Valid(v, a, g.ids[second])
		}))
	}
}
