package fore

import (
	"math/rand"
	"slices"
	"testing"

	"gouache/api"
	"gouache/node"
	"gouache/order"
	"gouache/rect"
	"gouache/region"
)

// side is how far the cells go, each way from 0; nothing of what is drawn comes there, if it isn't everywhere.
const side = 40

// cells says which points of the plane a set has.
type cells struct {
	at     [2 * side][2 * side]bool
	beyond bool
}

func (c *cells) has(x, y int) bool {
	if x < -side || x >= side || y < -side || y >= side {
		return c.beyond
	}
	return c.at[y+side][x+side]
}

// set answers the cells of the points that has says.
func set(beyond bool, has func(x, y int) bool) *cells {
	made := &cells{beyond: beyond}
	for y := -side; y < side; y++ {
		for x := -side; x < side; x++ {
			made.at[y+side][x+side] = has(x, y)
		}
	}
	return made
}

func none() *cells { return &cells{} }

func everywhere() *cells { return set(true, func(x, y int) bool { return true }) }

func ofRect(r api.Rect) *cells {
	return set(false, func(x, y int) bool { return r.X0 <= x && x < r.X1 && r.Y0 <= y && y < r.Y1 })
}

func ofRegion(a api.Region) *cells {
	made := none()
	for _, r := range a {
		made = joined(made, ofRect(r))
	}
	return made
}

func joined(l ...*cells) *cells {
	made := none()
	for _, c := range l {
		was := made
		made = set(was.beyond || c.beyond, func(x, y int) bool { return was.has(x, y) || c.has(x, y) })
	}
	return made
}

func (c *cells) moved(dx, dy int) *cells {
	return set(c.beyond, func(x, y int) bool { return c.has(x-dx, y-dy) })
}

func (c *cells) grown(rx, ry int) *cells {
	along := set(c.beyond, func(x, y int) bool {
		for i := -rx; i <= rx; i++ {
			if c.has(x+i, y) {
				return true
			}
		}
		return false
	})
	return set(c.beyond, func(x, y int) bool {
		for i := -ry; i <= ry; i++ {
			if along.has(x, y+i) {
				return true
			}
		}
		return false
	})
}

func (c *cells) clipped(p []int) *cells {
	return set(false, func(x, y int) bool { return c.has(x, y) && p[0] <= x && x < p[2] && p[1] <= y && y < p[3] })
}

func (c *cells) tiled(p []int) *cells {
	if *c.clipped(p) == *none() {
		return none()
	}
	return everywhere()
}

// region answers the right region of the cells: no node makes what is everywhere but for some points.
func (c *cells) region() api.Region {
	if c.beyond {
		return api.Region{rect.All()}
	}
	var l []api.Rect
	for y := -side; y < side; y++ {
		for x := -side; x < side; x++ {
			if c.has(x, y) {
				l = append(l, of(x, y, x+1, y+1))
			}
		}
	}
	return region.Of(l...)
}

// wordSpread answers a node's spread, by the chapter's words.
func wordSpread(n api.Node, l []*cells) *cells {
	switch n.Op {
	case 1:
		return l[0].moved(n.P[0], n.P[1])
	case 2, 3, 4:
		return l[0].grown(n.P[0], n.P[1])
	case 5, 7, 8, 9:
		return joined(l...)
	case 10:
		return l[0].tiled(n.P)
	case 11:
		return joined(l[0], l[0].moved(n.P[0], n.P[1]).grown(n.P[2], n.P[3]))
	case 12:
		return l[0].clipped(n.P)
	}
	return none()
}

// bounds answers the cells of the least rectangle that has all of c's.
func (c *cells) bounds() *cells {
	if c.beyond {
		return everywhere()
	}
	return ofRect(region.Bounds(c.region()))
}

// wordReach answers a node's reach, by the chapter's words.
func wordReach(n api.Node, l []*cells) *cells {
	switch n.Op {
	case 1:
		return l[0].moved(n.P[0], n.P[1])
	case 2, 4:
		return l[0].grown(n.P[0], n.P[1])
	case 3:
		return l[0]
	case 5:
		// Of nothing the last row alone makes an alpha, by its last number; and whatever colours the others make, where
		// there is no alpha there is nothing.
		if n.P[19] > 0 {
			return everywhere()
		}
		return l[0]
	case 6:
		if n.P[3] == 0 {
			return none()
		}
		return ofRect(of(n.P[4], n.P[5], n.P[6], n.P[7]))
	case 7, 8, 9:
		return joined(l...).bounds()
	case 10:
		return l[0].tiled(n.P)
	case 11:
		return joined(l[0], l[0].moved(n.P[0], n.P[1]).grown(n.P[2], n.P[3])).bounds()
	}
	return l[0].clipped(n.P)
}

// wordOver answers what word says of Out, node by node in the order.
func wordOver(g api.Graph, source *cells, word func(api.Node, []*cells) *cells) *cells {
	made := make([]*cells, len(g.Nodes))
	for _, at := range order.All(g) {
		var in []*cells
		for _, from := range g.Nodes[at].In {
			if from == -1 {
				in = append(in, source)
			} else {
				in = append(in, made[from])
			}
		}
		made[at] = word(g.Nodes[at], in)
	}
	return made[g.Out]
}

// box answers a rectangle around 0, which may be empty.
func box(c *rand.Rand, wide int) api.Rect {
	return of(c.Intn(wide)-wide/2, c.Intn(wide)-wide/2, c.Intn(wide)-wide/2, c.Intn(wide)-wide/2)
}

// drawRegion answers a right region around 0.
func drawRegion(c *rand.Rand) api.Region {
	var l []api.Rect
	for range c.Intn(5) {
		x, y := c.Intn(9)-5, c.Intn(9)-5
		l = append(l, of(x, y, x+1+c.Intn(4), y+1+c.Intn(4)))
	}
	return region.Of(l...)
}

// drawP answers right parameters of a kind, none of them great.
func drawP(c *rand.Rand, op int) []int {
	pixel := func() []int {
		alpha := c.Intn(3) * 100
		return []int{c.Intn(alpha + 1), c.Intn(alpha + 1), c.Intn(alpha + 1), alpha}
	}
	edges := func(r api.Rect) []int { return []int{r.X0, r.Y0, r.X1, r.Y1} }
	switch op {
	case api.Offset:
		return []int{c.Intn(7) - 3, c.Intn(7) - 3}
	case api.Blur, api.Erode, api.Dilate:
		return []int{c.Intn(3), c.Intn(3)}
	case api.Matrix:
		m := make([]int, 20)
		for i := range m {
			m[i] = c.Intn(512) - 200
		}
		m[19] = c.Intn(5) - 3
		return m
	case api.Flood:
		return append(pixel(), edges(box(c, 12))...)
	case api.Blend:
		return []int{c.Intn(7)}
	case api.Composite:
		return []int{c.Intn(6)}
	case api.Tile:
		x, y := c.Intn(9)-4, c.Intn(9)-4
		return []int{x, y, x + 1 + c.Intn(4), y + 1 + c.Intn(4)}
	case api.Shadow:
		return append([]int{c.Intn(7) - 3, c.Intn(7) - 3, c.Intn(3), c.Intn(3)}, pixel()...)
	case api.Clip:
		return edges(box(c, 14))
	}
	return nil
}

// drawNode answers a right node of a filter of so many.
func drawNode(c *rand.Rand, op, count int) api.Node {
	least, most, _, _ := node.Arity(op)
	n := api.Node{Op: op, P: drawP(c, op)}
	for range least + c.Intn(min(most-least, 2)+1) {
		n.In = append(n.In, c.Intn(count+1)-1)
	}
	return n
}

// drawGraph answers a right filter of at most so many nodes.
func drawGraph(c *rand.Rand, most int) api.Graph {
	for {
		g := api.Graph{Nodes: make([]api.Node, 1+c.Intn(most))}
		g.Out = c.Intn(len(g.Nodes))
		for at := range g.Nodes {
			g.Nodes[at] = drawNode(c, 1+c.Intn(12), len(g.Nodes))
		}
		if node.Check(g) == api.OK {
			return g
		}
	}
}

// P13.1: nodes of all kinds against the chapter's words.
func TestNodesMixed(t *testing.T) {
	c := chance()
	for range 150 {
		for op := 1; op <= 12; op++ {
			n := drawNode(c, op, 0)
			var l []api.Region
			var r []api.Rect
			var ofL, ofR []*cells
			for range n.In {
				a, b := drawRegion(c), box(c, 9)
				l, ofL = append(l, a), append(ofL, ofRegion(a))
				r, ofR = append(r, b), append(ofR, ofRect(b))
			}
			if got, want := Spread(n, l), wordSpread(n, ofL).region(); !slices.Equal(got, want) {
				t.Fatalf("Spread(%v, %v): %v, want %v", n, l, got, want)
			}
			if got, want := Reach(n, r), region.Bounds(wordReach(n, ofR).region()); got != want {
				t.Fatalf("Reach(%v, %v): %v, want %v", n, r, got, want)
			}
		}
	}
}

// P13.1: filters of all sorts against the chapter's words.
func TestFiltersMixed(t *testing.T) {
	c := chance()
	spreads, reaches := 0, 0
	for range 1500 {
		g, a, r := drawGraph(c, 6), drawRegion(c), box(c, 9)
		spread := SpreadAll(g, a)
		if want := wordOver(g, ofRegion(a), wordSpread).region(); !slices.Equal(spread, want) {
			t.Fatalf("SpreadAll(%v, %v): %v, want %v", g, a, spread, want)
		}
		reach := ReachAll(g, r)
		if want := region.Bounds(wordOver(g, ofRect(r), wordReach).region()); reach != want {
			t.Fatalf("ReachAll(%v, %v): %v, want %v", g, r, reach, want)
		}
		if len(spread) > 0 && spread[0] != rect.All() {
			spreads++
		}
		if !rect.Empty(reach) && reach != rect.All() {
			reaches++
		}
	}
	if spreads < 100 || reaches < 100 {
		t.Error("few have a spread or a reach:", spreads, reaches)
	}
}
