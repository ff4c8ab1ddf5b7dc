package need

import (
	"math/rand"
	"slices"
	"testing"

	"gouache/api"
	"gouache/blur"
	"gouache/mix"
	"gouache/morph"
	"gouache/move"
	"gouache/order"
	"gouache/raster"
	"gouache/rect"
	"gouache/tint"
	"gouache/tone"
)

// margin is no less than what any node that is drawn asks for around a box.
const margin = 6

// done answers what a node makes of its inputs in a box, by the layers below.
func done(n api.Node, in []api.Buffer, box api.Rect) api.Buffer {
	p := n.P
	switch n.Op {
	case api.Offset:
		return move.Offset(in[0], box, p[0], p[1])
	case api.Blur:
		return blur.Box(in[0], box, p[0], p[1])
	case api.Erode:
		return morph.Least(in[0], box, p[0], p[1])
	case api.Dilate:
		return morph.Most(in[0], box, p[0], p[1])
	case api.Flood:
		return move.Flood(box, api.Px{uint8(p[0]), uint8(p[1]), uint8(p[2]), uint8(p[3])}, of(p[4], p[5], p[6], p[7]))
	case api.Merge:
		return move.Merge(in, box)
	case api.Tile:
		return move.Tile(in[0], box, of(p[0], p[1], p[2], p[3]))
	case api.Shadow:
		return move.Shadow(in[0], box, p[0], p[1], p[2], p[3], api.Px{uint8(p[4]), uint8(p[5]), uint8(p[6]), uint8(p[7])})
	case api.Clip:
		return move.Clip(in[0], box, of(p[0], p[1], p[2], p[3]))
	}
	return byPoint(n, in, box)
}

// byPoint answers what a Matrix, a Blend or a Composite makes in a box.
func byPoint(n api.Node, in []api.Buffer, box api.Rect) api.Buffer {
	made := raster.New(box)
	for y := box.Y0; y < box.Y1; y++ {
		for x := box.X0; x < box.X1; x++ {
			p := raster.At(in[0], x, y)
			switch n.Op {
			case api.Matrix:
				p = tint.Pixel(n.P, p)
			case api.Blend:
				p = mix.Blend(n.P[0], p, raster.At(in[1], x, y))
			case api.Composite:
				p = mix.Composite(n.P[0], p, raster.At(in[1], x, y))
			}
			raster.Put(&made, x, y, p)
		}
	}
	return made
}

// shown answers what the node at (or Source) is in a box, made of src with more around the box than any node asks for.
func shown(g api.Graph, at int, src api.Buffer, box api.Rect) api.Buffer {
	if at == api.Source {
		return raster.Window(src, box)
	}
	n := g.Nodes[at]
	ask := rect.Grow(box, margin, margin, margin, margin)
	if n.Op == api.Tile {
		ask = rect.Join(ask, of(n.P[0], n.P[1], n.P[2], n.P[3]))
	}
	var in []api.Buffer
	for _, from := range n.In {
		in = append(in, shown(g, from, src, ask))
	}
	return done(n, in, box)
}

// picture answers a buffer of that box, with right pixels of all sorts.
func picture(c *rand.Rand, box api.Rect) api.Buffer {
	b := raster.New(box)
	for i := range b.Pix {
		b.Pix[i] = tone.Thick(api.Px{uint8(c.Intn(256)), uint8(c.Intn(256)), uint8(c.Intn(256)), uint8(c.Intn(256))})
	}
	return b
}

// other answers a buffer of b's pixels where it is told to keep them, and of others all around.
func other(c *rand.Rand, b api.Buffer, keep api.Rect) api.Buffer {
	around := rect.Grow(rect.Join(b.Box, keep), 2, 2, 2, 2)
	made := picture(c, around)
	raster.Copy(&made, b, keep, 0, 0)
	return made
}

// sum answers how many pixels of a buffer are something.
func sum(b api.Buffer) int {
	seen := 0
	for _, p := range b.Pix {
		if p != (api.Px{}) {
			seen++
		}
	}
	return seen
}

// P14.2: what a filter shows in a rectangle is the same, whatever Source is outside of what is needed of it.
func TestFollowsSource(t *testing.T) {
	c := chance()
	seen, hangs := 0, 0
	for range 6000 {
		g, want := drawGraph(c, 3), full(c, 7)
		_, source := All(g, want)
		was := picture(c, full(c, 15))
		first := shown(g, g.Out, was, want)
		again := shown(g, g.Out, other(c, was, source), want)
		if first.Box != again.Box || !slices.Equal(first.Pix, again.Pix) {
			t.Fatalf("%v in %v hangs on more of Source than %v", g, want, source)
		}
		seen += sum(first)
		if third := shown(g, g.Out, other(c, was, api.Rect{}), want); !slices.Equal(first.Pix, third.Pix) {
			hangs++
		}
	}
	if seen < 10000 || hangs < 1000 {
		t.Error("little is seen, or little of it hangs on Source:", seen, hangs)
	}
}

// P14.2: what a filter shows in a rectangle is made of what is needed of each node, whatever the nodes are elsewhere.
func TestFollowsNodes(t *testing.T) {
	c := chance()
	seen := 0
	for range 6000 {
		g, want := drawGraph(c, 4), full(c, 7)
		nodes, source := All(g, want)
		was := picture(c, full(c, 15))
		kept := make([]api.Buffer, len(g.Nodes))
		for _, at := range order.All(g) {
			if rect.Empty(nodes[at]) {
				continue
			}
			var in []api.Buffer
			for _, from := range g.Nodes[at].In {
				if from == api.Source {
					in = append(in, other(c, was, source))
				} else {
					in = append(in, other(c, kept[from], nodes[from]))
				}
			}
			kept[at] = done(g.Nodes[at], in, nodes[at])
		}
		first := shown(g, g.Out, was, want)
		if kept[g.Out].Box != want || !slices.Equal(first.Pix, kept[g.Out].Pix) {
			t.Fatalf("%v in %v is not made of %v, and %v of Source", g, want, nodes, source)
		}
		seen += sum(first)
	}
	if seen < 10000 {
		t.Error("little is seen:", seen)
	}
}
