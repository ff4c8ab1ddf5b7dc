package fore

import (
	"gouache/api"
	"gouache/order"
)

// over carries over a filter what one does of a node: from what is known of its inputs it tells what is known of itself.
// Of Source that is source; the answer is what is known of Out.
func over[T any](g api.Graph, source T, one func(n api.Node, in []T) T) T {
	known := make([]T, len(g.Nodes))
	needed := order.Needed(g)
	for _, at := range order.All(g) {
		// Out hangs on no other node; and each Shadow of a Shadow may double what a region is made of.
		if needed[at] {
			known[at] = one(g.Nodes[at], inputs(g.Nodes[at], source, known))
		}
	}
	return pick(g.Out, known)
}

// inputs answers what is known of n's inputs, in order.
func inputs[T any](n api.Node, source T, known []T) []T {
	in := make([]T, len(n.In))
	for i, at := range n.In {
		if at == api.Source {
			in[i] = source
		} else {
			in[i] = pick(at, known)
		}
	}
	return in
}

// pick answers what is known of the node at; nothing, if at is no node's place, as in a filter that isn't right.
func pick[T any](at int, known []T) T {
	var none T
	if at < 0 || at >= len(known) {
		return none
	}
	return known[at]
}
