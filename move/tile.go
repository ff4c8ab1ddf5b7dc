package move

import (
	"gouache/api"
	"gouache/raster"
	"gouache/rect"
)

// Tile answers a buffer of that box, whose pixels are src's, tiled by a rectangle.
//
// By a rectangle that is empty, or goes beyond half the way to the plane's ends, nothing is repeated: all pixels are
// nothing.
func Tile(src api.Buffer, box, tile api.Rect) api.Buffer {
	made := raster.New(box)
	if rect.Empty(tile) || !rect.Within(tile, half()) {
		return made
	}
	w, h := tile.X1-tile.X0, tile.Y1-tile.Y0
	first := made.Box
	first.X1, first.Y1 = min(first.X1, first.X0+w), min(first.Y1, first.Y0+h)
	for dy := away(first.Y0, tile.Y0, h); tile.Y0+dy < first.Y1; dy += h {
		for dx := away(first.X0, tile.X0, w); tile.X0+dx < first.X1; dx += w {
			raster.Copy(&made, src, rect.Meet(first, rect.Move(tile, dx, dy)), dx, dy)
		}
	}
	// Columns and rows that are farther are those of the first width and height again: a copy of many is cheaper by far
	// than one of each, where a tile is small.
	for y := first.Y0; y < first.Y1; y++ {
		repeat(row(made, made.Box.X0, made.Box.X1, y), first.X1-first.X0)
	}
	repeat(made.Pix, (first.Y1-first.Y0)*(made.Box.X1-made.Box.X0))
	return made
}

// half answers the rectangle that all tiles are within.
func half() api.Rect {
	return api.Rect{X0: -api.Far / 2, Y0: -api.Far / 2, X1: api.Far / 2, Y1: api.Far / 2}
}

// away answers how far from the tile's own place that repetition of it is which has the place at; the tile begins at
// start and has that size.
func away(at, start, size int) int {
	return at - start - remainder(at-start, size)
}

// remainder answers what is left of n, from 0 on, when whole sizes are taken away or added.
func remainder(n, size int) int {
	left := n % size
	if left < 0 {
		left += size
	}
	return left
}

// repeat makes all of pix be its first n pixels, over and over.
func repeat(pix []api.Px, n int) {
	for ; n < len(pix); n *= 2 {
		copy(pix[n:], pix[:n])
	}
}
