package need

import "gouache/api"

// parameters answers the first four of n's parameters: the further ones say nothing of what it needs. Those that a node
// lacks, which isn't right then, are 0, so that they may be asked for without a panic.
func parameters(n api.Node) [4]int {
	var p [4]int
	copy(p[:], n.P)
	return p
}

// edges answers the rectangle of these four edges.
func edges(p [4]int) api.Rect { return api.Rect{X0: p[0], Y0: p[1], X1: p[2], Y1: p[3]} }
