package encode

import (
	"iter"

	"ligature/chain"
	"ligature/vocab"
)

// pieces yields the pieces of right items: those of bytes, and each mark alone.
func pieces(v *vocab.Vocab, items []int) iter.Seq[[]int] {
	return func(yield func([]int) bool) {
		rest := items
		for len(rest) > 0 {
			n := end(v, rest)
			if !yield(rest[:n]) {
				return
			}
			rest = rest[n:]
		}
	}
}

// end is where the first piece of some items ends.
func end(v *vocab.Vocab, items []int) int {
	for i := 1; i < len(items); i++ {
		if apart(v, items[i-1], items[i]) {
			return i
		}
	}
	return len(items)
}

// apart tells whether one piece ends with an item, and another one begins with the next.
func apart(v *vocab.Vocab, item, next int) bool {
	return !isByte(item) || !isByte(next) || v.Bounds().Cuts(byte(item), byte(next))
}

// made is what is made of right items.
func made(v *vocab.Vocab, items []int) []int {
	var ids []int
	marks, table := v.Marks(), v.Table() // asked for once: the table may have to be made anew
	for piece := range pieces(v, items) {
		if id, ok := marks.Id(piece[0]); ok {
			ids = append(ids, id)
			continue
		}
		text, _ := marks.Render(piece...) // of bytes alone
		ids = append(ids, chain.Encode(table, text)...)
	}
	return ids
}
