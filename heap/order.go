package heap

// order is what things are ordered by. No two of a heap have the same turn, so no two are equal.
type order struct {
	rank, place, turn int
}

func (o order) less(other order) bool {
	if o.rank != other.rank {
		return o.rank < other.rank
	}
	if o.place != other.place {
		return o.place < other.place
	}
	return o.turn < other.turn
}

func parent(at int) int {
	return (at - 1) / 2
}

func children(at int) [2]int {
	return [2]int{2*at + 1, 2*at + 2}
}
