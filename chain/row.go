package chain

import (
	"ligature/heap"
	"ligature/token"
)

// gone is the number of a part that has become one with the part ahead of it: no token has it.
const gone = -1

// part is a token among others; it stands where its first byte does, so that it needn't move when others become one.
type part struct {
	id           int
	ahead, after int // where its neighbours stand
}

// pair is two parts that were to become one when it was found. It is let go, if one of both is another token by then.
type pair struct {
	left, right   int
	first, second int
}

// row is bytes on their way to tokens.
type row struct {
	table   *token.Table
	below   int
	parts   []part
	waiting *heap.Heap[pair] // by the number of the token that is made, and by where it begins
	steps   int
}

// rowOf is bytes as tokens of one byte each.
func rowOf(t *token.Table, s string, below int) *row {
	r := &row{table: t, below: below, parts: make([]part, len(s)), waiting: heap.New[pair]()}
	for i := range len(s) {
		r.parts[i] = part{int(s[i]), i - 1, i + 1}
		r.await(i-1, i)
	}
	return r
}

// await lets two neighbours wait, if they are parents.
func (r *row) await(left, right int) {
	if left < 0 || right >= len(r.parts) {
		return
	}
	p := pair{left, right, r.parts[left].id, r.parts[right].id}
	if id, ok := r.table.Pair(p.first, p.second); ok && id < r.below {
		r.waiting.Push(id, left, p)
	}
}

// settle makes tokens till none is to be made.
func (r *row) settle() {
	for {
		p, id, _, ok := r.waiting.Pop()
		if !ok {
			return
		}
		if r.stands(p) {
			r.join(p, id)
		}
	}
}

// stands tells whether both parts still are what they were: then they are neighbours too, as a token's bytes tell where it ends.
func (r *row) stands(p pair) bool {
	return r.parts[p.left].id == p.first && r.parts[p.right].id == p.second
}

// join makes one token of two neighbours.
func (r *row) join(p pair, id int) {
	left, right := &r.parts[p.left], &r.parts[p.right]
	left.id, right.id = id, gone
	left.after = right.after
	if left.after < len(r.parts) {
		r.parts[left.after].ahead = p.left
	}
	r.steps++
	r.await(left.ahead, p.left)
	r.await(p.left, left.after)
}

// ids is the tokens as they stand.
func (r *row) ids() []int {
	ids := make([]int, 0, len(r.parts)-r.steps)
	for at := 0; at < len(r.parts); at = r.parts[at].after {
		ids = append(ids, r.parts[at].id)
	}
	return ids
}
