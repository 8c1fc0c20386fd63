package trie

// node is a text with which some token's bytes begin: how many do, the token of just these bytes, if it ends here, and the texts of one byte more.
type node struct {
	under int
	id    int
	ends  bool
	next  map[byte]*node
}

// step is the next node by a byte, and whether it had to be made.
func (n *node) step(b byte) (*node, bool) {
	if next := n.next[b]; next != nil {
		return next, false
	}
	if n.next == nil {
		n.next = map[byte]*node{} // made as late as this: many nodes have no next one
	}
	next := &node{}
	n.next[b] = next
	return next, true
}

// below is the tokens that end at the nodes below this one, in no order: maps are gone through.
func (n *node) below() []int {
	var ids []int
	var gather func(n *node)
	gather = func(n *node) {
		for _, next := range n.next {
			if next.ends {
				ids = append(ids, next.id)
			}
			gather(next)
		}
	}
	gather(n)
	return ids
}
