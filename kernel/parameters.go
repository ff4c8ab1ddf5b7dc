package kernel

import "gouache/api"

// most is how many parameters a node has at most whose parameters are asked for one by one.
const most = 8

// parameters answers n's parameters. Those that a node lacks, which isn't right then, are 0, so that they may be asked
// for without a panic.
func parameters(n api.Node) [most]int {
	var p [most]int
	copy(p[:], n.P)
	return p
}

// pixel answers the pixel whose four p begins with.
func pixel(p []int) api.Px { return api.Px{uint8(p[0]), uint8(p[1]), uint8(p[2]), uint8(p[3])} }

// edges answers the rectangle whose edges p begins with.
func edges(p []int) api.Rect { return api.Rect{X0: p[0], Y0: p[1], X1: p[2], Y1: p[3]} }

// input answers what a node's input is, a buffer or a pixel. One that it lacks, which isn't right then, is nothing.
func input[T api.Buffer | api.Px](in []T, at int) T {
	if at < len(in) {
		return in[at]
	}
	var nothing T
	return nothing
}
