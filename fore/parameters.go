package fore

import "gouache/api"

// most is how many parameters a node has at most whose parameters are asked for one by one.
const most = 8

// parameters answers n's parameters. Those that a node lacks, which isn't right then, are 0, so that they may be asked
// for without a panic.
func parameters(n api.Node) [most]int {
	var p [most]int
	copy(p[:], n.P)
	return p
}

// edges answers the rectangle whose edges p begins with.
func edges(p []int) api.Rect { return api.Rect{X0: p[0], Y0: p[1], X1: p[2], Y1: p[3]} }
