package kernel

import (
	"gouache/api"
	"gouache/mix"
	"gouache/raster"
	"gouache/rect"
)

// each answers a buffer of the box r, with what n makes of in: a Matrix, a Blend or a Composite, which make the same of
// the same pixels at whatever point they are.
func each(n api.Node, in []api.Buffer, r api.Rect) api.Buffer {
	made := raster.New(r)
	// Seen through windows of one box, all inputs have their pixel of a point at the place that it has in made.
	seen := make([][]api.Px, len(in))
	for k, b := range in {
		seen[k] = raster.Window(b, made.Box).Pix
	}
	here := make([]api.Px, len(in))
	for at := range made.Pix {
		for k := range here {
			here[k] = seen[k][at]
		}
		made.Pix[at] = At(n, here, 0, 0)
	}
	return made
}

// within answers p where the rectangle has the point, and elsewhere nothing.
func within(r api.Rect, p api.Px, x, y int) api.Px {
	if !rect.Has(r, x, y) {
		return api.Px{}
	}
	return p
}

// merged answers what comes of pixels, each on top of those ahead of it.
func merged(in []api.Px) api.Px {
	// The first one on top of nothing is what it was.
	var made api.Px
	for _, p := range in {
		made = mix.Composite(api.Over, p, made)
	}
	return made
}
