package region

import "gouache/api"

// strip is the rows from y0 to y1, with what is made of them so far, from the left to the right.
type strip struct {
	y0, y1 int
	made   api.Region
	open   bool // a rectangle has begun, at x0
	x0     int
}

// merge makes the rectangles of the points that are taken, in rows where a and b have these bands.
func (s *strip) merge(a, b api.Region, taken func(inA, inB bool) bool) {
	i, j := 0, 0 // how many edges are passed: where that is odd, we are within a rectangle
	for {
		if i == 2*len(a) || j == 2*len(b) {
			goto over
		}
		xa, xb := edge(a, i), edge(b, j)
		if xa <= xb {
			i++
		}
		if xb <= xa {
			j++
		}
		s.pass(min(xa, xb), taken(i%2 == 1, j%2 == 1))
	}
over:
	for ; i < 2*len(a); i++ {
		s.pass(edge(a, i), taken(i%2 == 0, false))
	}
	for ; j < 2*len(b); j++ {
		s.pass(edge(b, j), taken(false, j%2 == 0))
	}
}

// pass goes on over the edge at x, to the right of which points are taken, or aren't.
func (s *strip) pass(x int, taken bool) {
	if taken == s.open {
		return
	}
	if s.open {
		s.made = append(s.made, api.Rect{X0: s.x0, Y0: s.y0, X1: x, Y1: s.y1})
	}
	s.open, s.x0 = taken, x
}

// edge answers a band's i-th edge in X, from the left to the right.
func edge(band api.Region, i int) int {
	r := band[i/2]
	if i%2 == 0 {
		return r.X0
	}
	return r.X1
}
