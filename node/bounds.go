package node

import (
	"math"
	"slices"

	"gouache/api"
	"gouache/tint"
	"gouache/tone"
)

// numbers is how many numbers a matrix has.
const numbers = 20

// top is the greatest of a pixel's four.
const top = 255

// bound asks of all parameters of a node, as many as its kind has, whether one of them may be what it is.
type bound func(p []int) bool

// bounds answers what is asked of a kind's parameters, one by one; nothing, if op is no kind.
func bounds(op int) []bound {
	switch op {
	case api.Offset:
		return coords(0, 2)
	case api.Blur, api.Erode, api.Dilate:
		return radii(0)
	case api.Matrix:
		return together(within(0, numbers, math.MinInt, math.MaxInt), tint.Right)
	case api.Flood:
		return slices.Concat(pixel(0), coords(4, 4))
	case api.Blend:
		return within(0, 1, api.Normal, api.Plus)
	case api.Composite:
		return within(0, 1, api.Over, api.Clear)
	case api.Tile:
		return together(coords(0, 4), isTile)
	case api.Shadow:
		return slices.Concat(coords(0, 2), radii(2), pixel(4))
	case api.Clip:
		return coords(0, 4)
	}
	return nil
}

// within answers bounds of so many parameters from start on: each is from least to most.
func within(start, count, least, most int) []bound {
	list := make([]bound, count)
	for i := range list {
		list[i] = func(p []int) bool { return least <= p[start+i] && p[start+i] <= most }
	}
	return list
}

// together answers the list with its last bound asking something of all parameters as well: it comes only behind the
// others of the list, which then hold.
func together(list []bound, all bound) []bound {
	last := len(list) - 1
	alone := list[last]
	list[last] = func(p []int) bool { return alone(p) && all(p) }
	return list
}

// coords answers bounds of so many coordinates from start on.
func coords(start, count int) []bound { return within(start, count, -api.MaxCoord, api.MaxCoord) }

// radii answers bounds of the two radii from start on.
func radii(start int) []bound { return within(start, 2, 0, api.MaxRadius) }

// pixel answers bounds of the four of a pixel from start on.
func pixel(start int) []bound {
	return together(within(start, 4, 0, top), func(p []int) bool {
		var px api.Px
		for i := range px {
			px[i] = uint8(p[start+i])
		}
		return tone.Right(px)
	})
}

// isTile says whether the rectangle of a Tile is none that is empty, and none that is too great.
func isTile(p []int) bool { return isSide(p[2]-p[0]) && isSide(p[3]-p[1]) }

// isSide says whether a tile's side may be so long.
func isSide(n int) bool { return 0 < n && n <= api.MaxSide }
