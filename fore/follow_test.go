package fore

import (
	"math/rand"
	"testing"

	"gouache/api"
	"gouache/blur"
	"gouache/mix"
	"gouache/morph"
	"gouache/move"
	"gouache/raster"
	"gouache/rect"
	"gouache/region"
	"gouache/tint"
	"gouache/tone"
)

// margin is no less than what any node that is drawn asks for around a box.
const margin = 6

// made answers what a node of g (or Source) makes of src in a box, by the layers below.
func made(g api.Graph, at int, src api.Buffer, box api.Rect) api.Buffer {
	if at == api.Source {
		return raster.Window(src, box)
	}
	n := g.Nodes[at]
	p := n.P
	ask := rect.Grow(box, margin, margin, margin, margin)
	if n.Op == api.Tile {
		ask = rect.Join(ask, of(p[0], p[1], p[2], p[3]))
	}
	var in []api.Buffer
	for _, from := range n.In {
		in = append(in, made(g, from, src, ask))
	}
	switch n.Op {
	case api.Offset:
		return move.Offset(in[0], box, p[0], p[1])
	case api.Blur:
		return blur.Box(in[0], box, p[0], p[1])
	case api.Erode:
		return morph.Least(in[0], box, p[0], p[1])
	case api.Dilate:
		return morph.Most(in[0], box, p[0], p[1])
	case api.Flood:
		return move.Flood(box, api.Px{uint8(p[0]), uint8(p[1]), uint8(p[2]), uint8(p[3])}, of(p[4], p[5], p[6], p[7]))
	case api.Merge:
		return move.Merge(in, box)
	case api.Tile:
		return move.Tile(in[0], box, of(p[0], p[1], p[2], p[3]))
	case api.Shadow:
		return move.Shadow(in[0], box, p[0], p[1], p[2], p[3], api.Px{uint8(p[4]), uint8(p[5]), uint8(p[6]), uint8(p[7])})
	case api.Clip:
		return move.Clip(in[0], box, of(p[0], p[1], p[2], p[3]))
	}
	return byPoint(n, in, box)
}

// byPoint answers what a Matrix, a Blend or a Composite makes in a box.
func byPoint(n api.Node, in []api.Buffer, box api.Rect) api.Buffer {
	made := raster.New(box)
	for y := box.Y0; y < box.Y1; y++ {
		for x := box.X0; x < box.X1; x++ {
			p := raster.At(in[0], x, y)
			switch n.Op {
			case api.Matrix:
				p = tint.Pixel(n.P, p)
			case api.Blend:
				p = mix.Blend(n.P[0], p, raster.At(in[1], x, y))
			case api.Composite:
				p = mix.Composite(n.P[0], p, raster.At(in[1], x, y))
			}
			raster.Put(&made, x, y, p)
		}
	}
	return made
}

// pixel answers a right pixel.
func pixel(c *rand.Rand) api.Px {
	return tone.Thick(api.Px{uint8(c.Intn(256)), uint8(c.Intn(256)), uint8(c.Intn(256)), uint8(c.Intn(256))})
}

// picture answers a buffer of that box, with pixels of all sorts.
func picture(c *rand.Rand, box api.Rect) api.Buffer {
	b := raster.New(box)
	for i := range b.Pix {
		b.Pix[i] = pixel(c)
	}
	return b
}

// P13.2: two buffers that differ in a region alone are made into two that differ in its spread alone.
func TestFollowsSpread(t *testing.T) {
	c := chance()
	view := of(-14, -14, 15, 15)
	differ, stay := 0, 0
	for range 1500 {
		g, a := drawGraph(c, 3), drawRegion(c)
		was := picture(c, of(-7, -7, 8, 8))
		is := raster.Window(was, was.Box)
		for _, r := range a {
			raster.Copy(&is, picture(c, r), r, 0, 0)
		}
		first, again := made(g, g.Out, was, view), made(g, g.Out, is, view)
		spread := SpreadAll(g, a)
		for y := view.Y0; y < view.Y1; y++ {
			for x := view.X0; x < view.X1; x++ {
				if raster.At(first, x, y) == raster.At(again, x, y) {
					continue
				}
				differ++
				if !region.Has(spread, x, y) {
					t.Fatalf("%v of a change of %v differs at %d, %d, outside of %v", g, a, x, y, spread)
				}
			}
		}
		stay += len(region.Cut(region.Of(view), spread))
	}
	if differ < 10000 || stay < 1000 {
		t.Error("little differs, or little must stay:", differ, stay)
	}
}

// P13.2: a buffer that is nothing outside of a rectangle is made into one that is nothing outside of its reach.
func TestFollowsReach(t *testing.T) {
	c := chance()
	view := of(-14, -14, 15, 15)
	seen, beyond := 0, 0
	for range 1500 {
		g, r := drawGraph(c, 3), box(c, 9)
		first := made(g, g.Out, picture(c, r), view)
		reach := ReachAll(g, r)
		for y := view.Y0; y < view.Y1; y++ {
			for x := view.X0; x < view.X1; x++ {
				if !rect.Has(reach, x, y) {
					beyond++
				}
				if raster.At(first, x, y) == (api.Px{}) {
					continue
				}
				seen++
				if !rect.Has(reach, x, y) {
					t.Fatalf("%v of what is within %v is something at %d, %d, outside of %v", g, r, x, y, reach)
				}
			}
		}
	}
	if seen < 10000 || beyond < 10000 {
		t.Error("little is seen, or little must be nothing:", seen, beyond)
	}
}
