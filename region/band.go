package region

import (
	"math"

	"gouache/api"
)

// first answers the rectangles at the beginning of a that have one Y0: in a right region, its first band.
func first(a api.Region) api.Region {
	n := 0
	for n < len(a) && a[n].Y0 == a[0].Y0 {
		n++
	}
	return a[:n]
}

// parted says whether a band's rectangles have one Y1, and each is apart from the one to its left.
func parted(band api.Region) bool {
	for i := 1; i < len(band); i++ {
		if band[i].Y1 != band[0].Y1 || band[i-1].X1 >= band[i].X0 {
			return false
		}
	}
	return true
}

// follows says whether in a right region the band may be the next one below the band above (which may be none).
func follows(above, band api.Region) bool {
	return len(above) == 0 || above[0].Y1 <= band[0].Y0 && !seamless(above, band)
}

// seamless says whether the two bands are one: the second begins where the first ends, and their edges in X are the same.
func seamless(above, band api.Region) bool {
	if len(above) != len(band) {
		return false
	}
	for i, r := range band {
		if above[i].Y1 != r.Y0 || above[i].X0 != r.X0 || above[i].X1 != r.X1 {
			return false
		}
	}
	return true
}

// nextEdge answers where, going down from y, a's first band begins, or ends if y is within it.
func nextEdge(a api.Region, y int) int {
	switch {
	case len(a) == 0:
		return math.MaxInt
	case a[0].Y0 > y:
		return a[0].Y0
	default:
		return a[0].Y1
	}
}

// bandAt answers a's first band, if it has begun at y.
func bandAt(a api.Region, y int) api.Region {
	if len(a) == 0 || a[0].Y0 > y {
		return nil
	}
	return first(a)
}

// below answers a without its first band, if that is over at y.
func below(a api.Region, y int) api.Region {
	if len(a) == 0 || a[0].Y1 > y {
		return a
	}
	return a[len(first(a)):]
}

// combine answers the right region of the points that are taken, which hangs on whether a and b have them.
//
// From one edge of a band of a or b to the next, nothing changes downward: that strip is made at once.
func combine(a, b api.Region, taken func(inA, inB bool) bool) api.Region {
	var made api.Region
	last, y := 0, math.MinInt
	for len(a) > 0 || len(b) > 0 {
		next := min(nextEdge(a, y), nextEdge(b, y))
		s := strip{y0: y, y1: next, made: made}
		s.merge(bandAt(a, y), bandAt(b, y), taken)
		made, last = settle(s.made, last, len(made))
		y = next
		a, b = below(a, y), below(b, y)
	}
	return made
}

// settle answers made, and where its last band begins, once the rectangles from place at on have come behind the band that begins at last.
func settle(made api.Region, last, at int) (api.Region, int) {
	above, band := made[last:at], made[at:]
	if len(band) == 0 {
		return made, last
	}
	if !seamless(above, band) {
		return made, at
	}
	for i := range above {
		above[i].Y1 = band[i].Y1
	}
	return made[:at], last
}
